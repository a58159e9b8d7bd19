/-
  'NordAll': what names stand for, where the first rest is 3.
-/
import Derived.Test.YtkncchofgehnpaaM8n
namespace Go.Proofs.Ytkncchofgehnpaa
open Go.RowKit Ex
def ne3_0 : E := (.ib .quo .i64 (.vi 1) (.li 3))
def ne3_1 : E := (.ai 9 0 (.ci (.ib .add .i64 ne3_0 (.li 0)) (.ci (.li 3) .n0)))
def ne3_2 : E := (.ib .sub .i64 (.li 2) ne3_1)
def ne3_3 : E := (.ic .eql ne3_2 (.li 0))
def ne3_4 : E := (.fb .quo (.i2f (.ib .sub .i64 (.ai 9 0 (.ci (.ti (.ic .lss (.li 0) (.vl 5)) (.at 5 0) (.li 0)) (.ci (.li 65) .n0))) (.li 32))) (.lf 4620693217682128896))
def ne3_5 : E := (.ic .eql ne3_2 (.li 1))
def ne3_6 : E := (.fb .quo (.i2f (.ib .sub .i64 (.ai 9 0 (.ci (.ti (.ic .lss (.li 1) (.vl 5)) (.at 5 1) (.li 1)) (.ci (.li 65) .n0))) (.li 32))) (.lf 4620693217682128896))
def ne3_7 : E := (.fb .quo (.i2f (.ib .sub .i64 (.ai 9 0 (.ci (.vi 1) (.ci (.li 17) .n0))) (.li 8))) (.lf 4616189618054758400))
def ne3_8 : E := (.ai 9 0 (.ci (.ib .add .i64 ne3_0 (.li 1)) (.ci (.li 3) .n0)))
def ne3_9 : E := (.ib .sub .i64 (.li 2) ne3_8)
def ne3_10 : E := (.fb .quo (.i2f (.ib .shl .i64 (.li 1) (.iw .u64 (.ai 9 0 (.ci (.vi 6) (.ci (.li 33) .n0)))))) (.lf 4742290407621132288))
def ne3_11 : E := (.ib .sub .i64 (.ib .sub .i64 (.li 3) ne3_1) (.li 1))
def ne3_12 : E := (.ic .eql ne3_11 (.li 0))
def ne3_13 : E := (.ic .eql ne3_11 (.li 1))
def ne3_14 : E := (.fb .quo (.i2f (.ib .sub .i64 (.ai 9 0 (.ci (.ti (.ic .lss (.li 2) (.vl 5)) (.at 5 2) (.li 2)) (.ci (.li 65) .n0))) (.li 32))) (.lf 4620693217682128896))
def ne3_15 : E := (.ib .sub .i64 (.ib .sub .i64 (.li 3) ne3_8) (.li 1))
def ne3_16 : E := (.ic .eql ne3_15 (.li 0))
def ne3_17 : E := (.ic .eql ne3_15 (.li 1))
def ne3_18 : E := (.ai 9 0 (.ci (.ib .add .i64 ne3_0 (.li 2)) (.ci (.li 3) .n0)))
def ne3_19 : E := (.ib .sub .i64 (.ib .sub .i64 (.li 3) ne3_18) (.li 1))
def ne3_20 : E := (.ic .eql (.ai 9 0 (.ci (.at 2 0) (.ci (.li 11) .n0))) (.li 0))
def ne3_21 : E := (.ib .quo .i64 (.at 2 0) (.li 4))
def ne3_22 : E := (.tf (.ic .eql (.ti ne3_20 (.li 0) (.ai 9 0 (.ci ne3_21 (.ci (.li 2) .n0)))) (.li 0)) ne3_4 ne3_7)
def ne3_23 : E := (.ib .quo .i64 (.at 2 0) (.li 40))
def ne3_24 : E := (.tf (.ic .eql (.ti ne3_20 (.li 0) (.ai 9 0 (.ci ne3_23 (.ci (.li 2) .n0)))) (.li 0)) ne3_4 ne3_7)
def ne3_25 : E := (.ib .add .i64 (.li 2) (.ai 9 0 (.ci (.at 2 0) (.ci (.li 3) .n0))))
def ne3_26 : E := (.ic .eql ne3_25 (.li 3))
def ne3_27 : E := (.ic .eql ne3_25 (.li 2))
def ne3_28 : E := (.ic .eql (.ai 9 0 (.ci (.at 2 0) (.ci (.li 7) .n0))) (.li 0))
def ne3_29 : E := (.tf ne3_20 (.fb .quo (.i2f (.ib .sub .i64 (.ai 9 0 (.ci (.ib .quo .i64 (.at 2 0) (.li 11)) (.ci (.li 33) .n0))) (.li 16))) (.lf 4620693217682128896)) (.lf 0))
def ne3_30 : E := (.ti ne3_20 (.li 0) (.ai 9 0 (.ci ne3_21 (.ci (.li 3) .n0))))
def ne3_31 : E := (.ti ne3_20 (.li 0) (.ai 9 0 (.ci ne3_23 (.ci (.li 3) .n0))))
def ne3_32 : E := (.ti ne3_20 (.li 0) (.ai 9 0 (.ci ne3_21 (.ci (.li 4) .n0))))
def ne3_33 : E := (.ti ne3_20 (.li 0) (.ai 9 0 (.ci ne3_23 (.ci (.li 4) .n0))))
def ne3_34 : E := (.ib .sub .i64 (.ib .sub .i64 (.li 4) ne3_1) (.li 2))
def ne3_35 : E := (.ic .eql ne3_34 (.li 0))
def ne3_36 : E := (.ic .eql ne3_34 (.li 1))
def ne3_37 : E := (.ib .sub .i64 (.ib .sub .i64 (.li 4) ne3_8) (.li 2))
def ne3_38 : E := (.ic .eql ne3_37 (.li 0))
def ne3_39 : E := (.ic .eql ne3_37 (.li 1))
def ne3_40 : E := (.ib .sub .i64 (.ib .sub .i64 (.li 4) ne3_18) (.li 2))
def ne3_41 : E := (.ic .eql (.ai 9 0 (.ci (.at 2 1) (.ci (.li 11) .n0))) (.li 0))
def ne3_42 : E := (.ib .quo .i64 (.at 2 1) (.li 4))
def ne3_43 : E := (.ti ne3_41 (.li 0) (.ai 9 0 (.ci ne3_42 (.ci (.li 3) .n0))))
def ne3_44 : E := (.ib .quo .i64 (.at 2 1) (.li 40))
def ne3_45 : E := (.ti ne3_41 (.li 0) (.ai 9 0 (.ci ne3_44 (.ci (.li 3) .n0))))
def ne3_46 : E := (.ib .add .i64 (.li 2) (.ai 9 0 (.ci (.at 2 1) (.ci (.li 3) .n0))))
def ne3_47 : E := (.ic .eql ne3_46 (.li 3))
def ne3_48 : E := (.ic .eql ne3_46 (.li 2))
def ne3_49 : E := (.ic .eql (.ai 9 0 (.ci (.at 2 1) (.ci (.li 7) .n0))) (.li 0))
def ne3_50 : E := (.tf ne3_41 (.fb .quo (.i2f (.ib .sub .i64 (.ai 9 0 (.ci (.ib .quo .i64 (.at 2 1) (.li 11)) (.ci (.li 33) .n0))) (.li 16))) (.lf 4620693217682128896)) (.lf 0))
def ne3_51 : E := (.ti ne3_41 (.li 0) (.ai 9 0 (.ci ne3_42 (.ci (.li 4) .n0))))
def ne3_52 : E := (.ti ne3_41 (.li 0) (.ai 9 0 (.ci ne3_44 (.ci (.li 4) .n0))))
def ne3_53 : E := (.ti ne3_41 (.li 0) (.ai 9 0 (.ci ne3_42 (.ci (.li 5) .n0))))
def ne3_54 : E := (.ti ne3_41 (.li 0) (.ai 9 0 (.ci ne3_44 (.ci (.li 5) .n0))))
def ne3_55 : E := (.ib .sub .i64 (.ib .sub .i64 (.li 5) ne3_1) (.li 3))
def ne3_56 : E := (.ic .eql ne3_55 (.li 0))
def ne3_57 : E := (.ic .eql ne3_55 (.li 1))
def ne3_58 : E := (.ib .sub .i64 (.ib .sub .i64 (.li 5) ne3_8) (.li 3))
def ne3_59 : E := (.ic .eql ne3_58 (.li 0))
def ne3_60 : E := (.ic .eql ne3_58 (.li 1))
def ne3_61 : E := (.ib .sub .i64 (.ib .sub .i64 (.li 5) ne3_18) (.li 3))
def ne3_62 : E := (.ic .eql (.ai 9 0 (.ci (.at 2 2) (.ci (.li 11) .n0))) (.li 0))
def ne3_63 : E := (.ib .quo .i64 (.at 2 2) (.li 4))
def ne3_64 : E := (.ti ne3_62 (.li 0) (.ai 9 0 (.ci ne3_63 (.ci (.li 4) .n0))))
def ne3_65 : E := (.ib .quo .i64 (.at 2 2) (.li 40))
def ne3_66 : E := (.ti ne3_62 (.li 0) (.ai 9 0 (.ci ne3_65 (.ci (.li 4) .n0))))
def ne3_67 : E := (.ib .add .i64 (.li 2) (.ai 9 0 (.ci (.at 2 2) (.ci (.li 3) .n0))))
def ne3_68 : E := (.ic .eql ne3_67 (.li 3))
def ne3_69 : E := (.ic .eql ne3_67 (.li 2))
def ne3_70 : E := (.ic .eql (.ai 9 0 (.ci (.at 2 2) (.ci (.li 7) .n0))) (.li 0))
def ne3_71 : E := (.tf ne3_62 (.fb .quo (.i2f (.ib .sub .i64 (.ai 9 0 (.ci (.ib .quo .i64 (.at 2 2) (.li 11)) (.ci (.li 33) .n0))) (.li 16))) (.lf 4620693217682128896)) (.lf 0))
def ne3_72 : E := (.ti ne3_62 (.li 0) (.ai 9 0 (.ci ne3_63 (.ci (.li 5) .n0))))
def ne3_73 : E := (.ti ne3_62 (.li 0) (.ai 9 0 (.ci ne3_65 (.ci (.li 5) .n0))))
def ne3_74 : E := (.ti ne3_62 (.li 0) (.ai 9 0 (.ci ne3_63 (.ci (.li 6) .n0))))
def ne3_75 : E := (.ti ne3_62 (.li 0) (.ai 9 0 (.ci ne3_65 (.ci (.li 6) .n0))))
def ne3_76 : E := (.ib .sub .i64 (.ib .sub .i64 (.li 6) ne3_1) (.li 4))
def ne3_77 : E := (.ic .eql ne3_76 (.li 0))
def ne3_78 : E := (.ic .eql ne3_76 (.li 1))
def ne3_79 : E := (.ib .sub .i64 (.ib .sub .i64 (.li 6) ne3_8) (.li 4))
def ne3_80 : E := (.ic .eql ne3_79 (.li 0))
def ne3_81 : E := (.ic .eql ne3_79 (.li 1))
def ne3_82 : E := (.ib .sub .i64 (.ib .sub .i64 (.li 6) ne3_18) (.li 4))
def ne3_83 : E := (.fb .quo (.i2f (.ib .sub .i64 (.ai 9 0 (.ci (.at 2 1) (.ci (.li 201) .n0))) (.li 100))) (.lf 4619567317775286272))
def ne3_84 : E := (.fb .quo (.i2f (.ib .sub .i64 (.ai 9 0 (.ci (.at 2 2) (.ci (.li 201) .n0))) (.li 100))) (.lf 4619567317775286272))
def ne3_85 : E := (.fb .quo (.i2f (.ib .sub .i64 (.ai 9 0 (.ci (.at 2 3) (.ci (.li 201) .n0))) (.li 100))) (.lf 4619567317775286272))
def ne3_86 : E := (.fb .add ne3_85 (.lf 13847282111413597915))
def ne3_87 : E := (.fb .add ne3_84 ne3_86)
def ne3_88 : E := (.ic .eql (.ai 9 0 (.ci (.at 2 3) (.ci (.li 11) .n0))) (.li 0))
def ne3_89 : E := (.ib .quo .i64 (.at 2 3) (.li 4))
def ne3_90 : E := (.ti ne3_88 (.li 0) (.ai 9 0 (.ci ne3_89 (.ci (.li 5) .n0))))
def ne3_91 : E := (.ib .quo .i64 (.at 2 3) (.li 40))
def ne3_92 : E := (.ti ne3_88 (.li 0) (.ai 9 0 (.ci ne3_91 (.ci (.li 5) .n0))))
def ne3_93 : E := (.ib .add .i64 (.li 2) (.ai 9 0 (.ci (.at 2 3) (.ci (.li 3) .n0))))
def ne3_94 : E := (.ic .eql ne3_93 (.li 3))
def ne3_95 : E := (.ic .eql ne3_93 (.li 2))
def ne3_96 : E := (.ic .eql (.ai 9 0 (.ci (.at 2 3) (.ci (.li 7) .n0))) (.li 0))
def ne3_97 : E := (.tf ne3_88 (.fb .quo (.i2f (.ib .sub .i64 (.ai 9 0 (.ci (.ib .quo .i64 (.at 2 3) (.li 11)) (.ci (.li 33) .n0))) (.li 16))) (.lf 4620693217682128896)) (.lf 0))
def ne3_98 : E := (.ti ne3_88 (.li 0) (.ai 9 0 (.ci ne3_89 (.ci (.li 6) .n0))))
def ne3_99 : E := (.ti ne3_88 (.li 0) (.ai 9 0 (.ci ne3_91 (.ci (.li 6) .n0))))
def ne3_100 : E := (.ti ne3_88 (.li 0) (.ai 9 0 (.ci ne3_89 (.ci (.li 7) .n0))))
def ne3_101 : E := (.ti ne3_88 (.li 0) (.ai 9 0 (.ci ne3_91 (.ci (.li 7) .n0))))
def ne3_102 : E := (.ib .sub .i64 (.ib .sub .i64 (.li 7) ne3_1) (.li 5))
def ne3_103 : E := (.ic .eql ne3_102 (.li 0))
def ne3_104 : E := (.ic .eql ne3_102 (.li 1))
def ne3_105 : E := (.ib .sub .i64 (.ib .sub .i64 (.li 7) ne3_8) (.li 5))
def ne3_106 : E := (.ic .eql ne3_105 (.li 0))
def ne3_107 : E := (.ic .eql ne3_105 (.li 1))
def ne3_108 : E := (.ib .sub .i64 (.ib .sub .i64 (.li 7) ne3_18) (.li 5))
def ne3_109 : E := (.fb .quo (.i2f (.ib .sub .i64 (.ai 9 0 (.ci (.at 2 4) (.ci (.li 201) .n0))) (.li 100))) (.lf 4619567317775286272))
def ne3_110 : E := (.fb .add ne3_85 ne3_109)
def ne3_111 : E := (.fb .add ne3_84 ne3_110)
def ne3_112 : E := (.fb .add ne3_110 ne3_109)
def ne3_113 : E := (.fb .quo (.i2f (.ib .sub .i64 (.ai 9 0 (.ci (.at 2 0) (.ci (.li 201) .n0))) (.li 100))) (.lf 4619567317775286272))
def ne3_114 : E := (.ic .eql (.ai 9 0 (.ci (.at 2 4) (.ci (.li 11) .n0))) (.li 0))
def ne3_115 : E := (.ib .quo .i64 (.at 2 4) (.li 4))
def ne3_116 : E := (.ti ne3_114 (.li 0) (.ai 9 0 (.ci ne3_115 (.ci (.li 6) .n0))))
def ne3_117 : E := (.ib .quo .i64 (.at 2 4) (.li 40))
def ne3_118 : E := (.ti ne3_114 (.li 0) (.ai 9 0 (.ci ne3_117 (.ci (.li 6) .n0))))
def ne3_119 : E := (.ib .add .i64 (.li 2) (.ai 9 0 (.ci (.at 2 4) (.ci (.li 3) .n0))))
def ne3_120 : E := (.ic .eql ne3_119 (.li 3))
def ne3_121 : E := (.ic .eql ne3_119 (.li 2))
def ne3_122 : E := (.ic .eql (.ai 9 0 (.ci (.at 2 4) (.ci (.li 7) .n0))) (.li 0))
def ne3_123 : E := (.tf ne3_114 (.fb .quo (.i2f (.ib .sub .i64 (.ai 9 0 (.ci (.ib .quo .i64 (.at 2 4) (.li 11)) (.ci (.li 33) .n0))) (.li 16))) (.lf 4620693217682128896)) (.lf 0))
def ne3_124 : E := (.ti ne3_114 (.li 0) (.ai 9 0 (.ci ne3_115 (.ci (.li 7) .n0))))
def ne3_125 : E := (.ti ne3_114 (.li 0) (.ai 9 0 (.ci ne3_117 (.ci (.li 7) .n0))))
def ne3_126 : E := (.ti ne3_114 (.li 0) (.ai 9 0 (.ci ne3_115 (.ci (.li 8) .n0))))
def ne3_127 : E := (.ti ne3_114 (.li 0) (.ai 9 0 (.ci ne3_117 (.ci (.li 8) .n0))))
def ne3_128 : E := (.ib .sub .i64 (.ib .sub .i64 (.li 8) ne3_1) (.li 6))
def ne3_129 : E := (.ic .eql ne3_128 (.li 0))
def ne3_130 : E := (.ic .eql ne3_128 (.li 1))
def ne3_131 : E := (.ib .sub .i64 (.ib .sub .i64 (.li 8) ne3_8) (.li 6))
def ne3_132 : E := (.ic .eql ne3_131 (.li 0))
def ne3_133 : E := (.ic .eql ne3_131 (.li 1))
def ne3_134 : E := (.ib .sub .i64 (.ib .sub .i64 (.li 8) ne3_18) (.li 6))
def ne3_135 : E := (.ic .eql (.ai 9 0 (.ci (.at 2 5) (.ci (.li 11) .n0))) (.li 0))
def ne3_136 : E := (.ib .quo .i64 (.at 2 5) (.li 4))
def ne3_137 : E := (.ti ne3_135 (.li 0) (.ai 9 0 (.ci ne3_136 (.ci (.li 7) .n0))))
def ne3_138 : E := (.ib .quo .i64 (.at 2 5) (.li 40))
def ne3_139 : E := (.ti ne3_135 (.li 0) (.ai 9 0 (.ci ne3_138 (.ci (.li 7) .n0))))
def ne3_140 : E := (.ib .add .i64 (.li 2) (.ai 9 0 (.ci (.at 2 5) (.ci (.li 3) .n0))))
def ne3_141 : E := (.ic .eql ne3_140 (.li 3))
def ne3_142 : E := (.ic .eql ne3_140 (.li 2))
def ne3_143 : E := (.ic .eql (.ai 9 0 (.ci (.at 2 5) (.ci (.li 7) .n0))) (.li 0))
def ne3_144 : E := (.tf ne3_135 (.fb .quo (.i2f (.ib .sub .i64 (.ai 9 0 (.ci (.ib .quo .i64 (.at 2 5) (.li 11)) (.ci (.li 33) .n0))) (.li 16))) (.lf 4620693217682128896)) (.lf 0))
def ne3_145 : E := (.ti ne3_135 (.li 0) (.ai 9 0 (.ci ne3_136 (.ci (.li 8) .n0))))
def ne3_146 : E := (.ti ne3_135 (.li 0) (.ai 9 0 (.ci ne3_138 (.ci (.li 8) .n0))))
def ne3_147 : E := (.ti ne3_135 (.li 0) (.ai 9 0 (.ci ne3_136 (.ci (.li 9) .n0))))
def ne3_148 : E := (.ti ne3_135 (.li 0) (.ai 9 0 (.ci ne3_138 (.ci (.li 9) .n0))))
def ne3_149 : E := (.ib .sub .i64 (.ib .sub .i64 (.li 9) ne3_1) (.li 7))
def ne3_150 : E := (.ic .eql ne3_149 (.li 0))
def ne3_151 : E := (.ic .eql ne3_149 (.li 1))
def ne3_152 : E := (.ib .sub .i64 (.ib .sub .i64 (.li 9) ne3_8) (.li 7))
def ne3_153 : E := (.ic .eql ne3_152 (.li 0))
def ne3_154 : E := (.ic .eql ne3_152 (.li 1))
def ne3_155 : E := (.ib .sub .i64 (.ib .sub .i64 (.li 9) ne3_18) (.li 7))
def ne3_156 : E := (.ic .eql (.ai 9 0 (.ci (.at 2 6) (.ci (.li 11) .n0))) (.li 0))
def ne3_157 : E := (.ib .quo .i64 (.at 2 6) (.li 4))
def ne3_158 : E := (.ti ne3_156 (.li 0) (.ai 9 0 (.ci ne3_157 (.ci (.li 8) .n0))))
def ne3_159 : E := (.ib .quo .i64 (.at 2 6) (.li 40))
def ne3_160 : E := (.ti ne3_156 (.li 0) (.ai 9 0 (.ci ne3_159 (.ci (.li 8) .n0))))
def ne3_161 : E := (.ib .add .i64 (.li 2) (.ai 9 0 (.ci (.at 2 6) (.ci (.li 3) .n0))))
def ne3_162 : E := (.ic .eql ne3_161 (.li 3))
def ne3_163 : E := (.ic .eql ne3_161 (.li 2))
def ne3_164 : E := (.ic .eql (.ai 9 0 (.ci (.at 2 6) (.ci (.li 7) .n0))) (.li 0))
def ne3_165 : E := (.tf ne3_156 (.fb .quo (.i2f (.ib .sub .i64 (.ai 9 0 (.ci (.ib .quo .i64 (.at 2 6) (.li 11)) (.ci (.li 33) .n0))) (.li 16))) (.lf 4620693217682128896)) (.lf 0))
def ne3_166 : E := (.fb .quo (.i2f (.ib .sub .i64 (.ai 9 0 (.ci (.at 2 6) (.ci (.li 201) .n0))) (.li 100))) (.lf 4619567317775286272))
def ne3_167 : E := (.fb .add ne3_166 (.lf 13847282111413597915))
def ne3_168 : E := (.fb .add ne3_109 ne3_167)
def ne3_169 : E := (.ti ne3_156 (.li 0) (.ai 9 0 (.ci ne3_157 (.ci (.li 9) .n0))))
def ne3_170 : E := (.ti ne3_156 (.li 0) (.ai 9 0 (.ci ne3_159 (.ci (.li 9) .n0))))
def ne3_171 : E := (.ti ne3_156 (.li 0) (.ai 9 0 (.ci ne3_157 (.ci (.li 10) .n0))))
def ne3_172 : E := (.ti ne3_156 (.li 0) (.ai 9 0 (.ci ne3_159 (.ci (.li 10) .n0))))
def ne3_173 : E := (.ib .sub .i64 (.ib .sub .i64 (.li 10) ne3_1) (.li 8))
def ne3_174 : E := (.ic .eql ne3_173 (.li 0))
def ne3_175 : E := (.ic .eql ne3_173 (.li 1))
def ne3_176 : E := (.ib .sub .i64 (.ib .sub .i64 (.li 10) ne3_8) (.li 8))
def ne3_177 : E := (.ic .eql ne3_176 (.li 0))
def ne3_178 : E := (.ic .eql ne3_176 (.li 1))
def ne3_179 : E := (.ib .sub .i64 (.ib .sub .i64 (.li 10) ne3_18) (.li 8))
def ne3_180 : E := (.ic .eql (.ai 9 0 (.ci (.at 2 7) (.ci (.li 11) .n0))) (.li 0))
def ne3_181 : E := (.ib .quo .i64 (.at 2 7) (.li 4))
def ne3_182 : E := (.ti ne3_180 (.li 0) (.ai 9 0 (.ci ne3_181 (.ci (.li 9) .n0))))
def ne3_183 : E := (.ib .quo .i64 (.at 2 7) (.li 40))
def ne3_184 : E := (.ti ne3_180 (.li 0) (.ai 9 0 (.ci ne3_183 (.ci (.li 9) .n0))))
def ne3_185 : E := (.ib .add .i64 (.li 2) (.ai 9 0 (.ci (.at 2 7) (.ci (.li 3) .n0))))
def ne3_186 : E := (.ic .eql ne3_185 (.li 3))
def ne3_187 : E := (.ic .eql ne3_185 (.li 2))
def ne3_188 : E := (.ic .eql (.ai 9 0 (.ci (.at 2 7) (.ci (.li 7) .n0))) (.li 0))
def ne3_189 : E := (.tf ne3_180 (.fb .quo (.i2f (.ib .sub .i64 (.ai 9 0 (.ci (.ib .quo .i64 (.at 2 7) (.li 11)) (.ci (.li 33) .n0))) (.li 16))) (.lf 4620693217682128896)) (.lf 0))
def ne3_190 : E := (.fb .quo (.i2f (.ib .sub .i64 (.ai 9 0 (.ci (.ti (.ic .lss (.li 8) (.vl 2)) (.at 2 8) (.li 4)) (.ci (.li 201) .n0))) (.li 100))) (.lf 4619567317775286272))
def ne3_191 : E := (.fb .add ne3_166 ne3_190)
def ne3_192 : E := (.fb .add ne3_109 ne3_191)
def ne3_193 : E := (.fb .add ne3_84 ne3_192)
def ne3_194 : E := (.fb .quo (.i2f (.ib .sub .i64 (.ai 9 0 (.ci (.at 2 5) (.ci (.li 201) .n0))) (.li 100))) (.lf 4619567317775286272))
def ne3_195 : E := (.fb .quo (.i2f (.ib .sub .i64 (.ai 9 0 (.ci (.at 2 7) (.ci (.li 201) .n0))) (.li 100))) (.lf 4619567317775286272))
def ne3_196 : E := (.ic .lss (.li 9) (.vl 2))
def ne3_197 : E := (.fb .quo (.i2f (.ib .sub .i64 (.ai 9 0 (.ci (.ti ne3_196 (.at 2 9) (.li 5)) (.ci (.li 201) .n0))) (.li 100))) (.lf 4619567317775286272))
def ne3_198 : E := (.fb .add ne3_195 ne3_197)
def ne3_199 : E := (.fb .add ne3_194 ne3_198)
def ne3_200 : E := (.fb .add ne3_85 ne3_199)
def ne3_201 : E := (.fb .add ne3_191 ne3_190)
def ne3_202 : E := (.fb .add ne3_198 ne3_197)
def ne3_203 : E := (.ti ne3_180 (.li 0) (.ai 9 0 (.ci ne3_181 (.ci (.li 10) .n0))))
def ne3_204 : E := (.ti ne3_180 (.li 0) (.ai 9 0 (.ci ne3_183 (.ci (.li 10) .n0))))
def ne3_205 : E := (.fb .quo (.i2f (.ib .sub .i64 (.ai 9 0 (.ci (.ti (.ic .lss (.li 11) (.vl 2)) (.at 2 11) (.li 5)) (.ci (.li 201) .n0))) (.li 100))) (.lf 4619567317775286272))
def ne3_206 : E := (.fb .quo (.i2f (.ib .sub .i64 (.ai 9 0 (.ci (.ti (.ic .lss (.li 14) (.vl 2)) (.at 2 14) (.li 6)) (.ci (.li 201) .n0))) (.li 100))) (.lf 4619567317775286272))
def ne3_207 : E := (.fb .add ne3_205 ne3_206)
def ne3_208 : E := (.fb .add ne3_190 ne3_207)
def ne3_209 : E := (.fb .quo (.i2f (.ib .sub .i64 (.ai 9 0 (.ci (.ti ne3_196 (.at 2 9) (.li 3)) (.ci (.li 201) .n0))) (.li 100))) (.lf 4619567317775286272))
def ne3_210 : E := (.fb .quo (.i2f (.ib .sub .i64 (.ai 9 0 (.ci (.ti (.ic .lss (.li 12) (.vl 2)) (.at 2 12) (.li 4)) (.ci (.li 201) .n0))) (.li 100))) (.lf 4619567317775286272))
def ne3_211 : E := (.fb .add ne3_209 ne3_210)
def ne3_212 : E := (.fb .add ne3_166 ne3_211)
def ne3_213 : E := (.fb .add ne3_85 ne3_212)
def ne3_214 : E := (.fb .quo (.i2f (.ib .sub .i64 (.ai 9 0 (.ci (.ti (.ic .lss (.li 10) (.vl 2)) (.at 2 10) (.li 4)) (.ci (.li 201) .n0))) (.li 100))) (.lf 4619567317775286272))
def ne3_215 : E := (.fb .quo (.i2f (.ib .sub .i64 (.ai 9 0 (.ci (.ti (.ic .lss (.li 13) (.vl 2)) (.at 2 13) (.li 5)) (.ci (.li 201) .n0))) (.li 100))) (.lf 4619567317775286272))
def ne3_216 : E := (.fb .add ne3_214 ne3_215)
def ne3_217 : E := (.fb .add ne3_195 ne3_216)
def ne3_218 : E := (.fb .add ne3_109 ne3_217)
def ne3_219 : E := (.fb .add ne3_211 ne3_210)
def ne3_220 : E := (.fb .add ne3_216 ne3_215)
def ne3_221 : E := (.fb .add ne3_207 ne3_206)
def ne3_222 : E := (.ti ne3_180 (.li 0) (.ai 9 0 (.ci ne3_181 (.ci (.li 11) .n0))))
def ne3_223 : E := (.ti ne3_180 (.li 0) (.ai 9 0 (.ci ne3_183 (.ci (.li 11) .n0))))
def ne3_224 : E := (.ib .sub .i64 (.ib .sub .i64 (.li 11) ne3_1) (.li 9))
def ne3_225 : E := (.ib .sub .i64 (.ib .sub .i64 (.li 11) ne3_8) (.li 9))
def ne3_226 : E := (.ib .sub .i64 (.ib .sub .i64 (.li 11) ne3_18) (.li 9))
def nN3 : Nms := [(362731446, 100, (.tf ne3_3 ne3_4 (.tf ne3_5 ne3_6 ne3_7))),
  (2962095690, 101, (.tf (.ic .eql ne3_9 (.li 0)) ne3_4 (.tf (.ic .eql ne3_9 (.li 1)) ne3_6 ne3_7))),
  (2867591044, 102, (.fb .mul ne3_10 (.vf 100))),
  (2867591045, 103, (.fb .mul ne3_10 (.vf 101))),
  (3040827088, 104, (.tf ne3_12 ne3_6 (.tf ne3_13 ne3_14 ne3_7))),
  (748864546, 105, (.tf ne3_16 ne3_6 (.tf ne3_17 ne3_14 ne3_7))),
  (2751869295, 106, (.tf (.ic .eql ne3_19 (.li 0)) ne3_6 (.tf (.ic .eql ne3_19 (.li 1)) ne3_14 ne3_7))),
  (2867591048, 107, (.fb .mul ne3_10 (.vf 104))),
  (2867591049, 108, (.fb .mul ne3_10 (.vf 105))),
  (2867591050, 109, (.fb .mul ne3_10 (.vf 106))),
  (3346043704, 110, (.fb .add ne3_22 ne3_24)),
  (2624664910, 111, (.fb .sub ne3_22 ne3_24)),
  (1903286116, 112, (.fb .mul ne3_22 ne3_24)),
  (1416972978, 113, (.tf ne3_26 (.vf 111) (.vf 112))),
  (2858730564, 114, (.tf ne3_27 (.vf 110) (.vf 113))),
  (1181907322, 115, (.fb .quo ne3_22 ne3_24)),
  (1911084014, 116, (.tf ne3_28 (.vf 115) (.vf 114))),
  (1493552807, 117, (.tf ne3_20 ne3_29 (.tf (.vb 7) (.vf 116) (.vf 114)))),
  (3808619061, 118, (.tf ne3_3 ne3_4 (.tf ne3_5 ne3_7 (.vf 117)))),
  (2867591062, 119, (.fb .mul ne3_10 (.vf 118))),
  (3650053717, 120, (.tf (.ic .eql ne3_30 (.li 0)) ne3_4 (.tf (.ic .eql ne3_30 (.li 1)) ne3_6 ne3_7))),
  (2737886099, 121, (.tf (.ic .eql ne3_31 (.li 0)) ne3_4 (.tf (.ic .eql ne3_31 (.li 1)) ne3_6 ne3_7))),
  (706907051, 122, (.tf ne3_26 (.fb .sub (.vf 120) (.vf 121)) (.fb .mul (.vf 120) (.vf 121)))),
  (4055025637, 123, (.tf ne3_27 (.fb .add (.vf 120) (.vf 121)) (.vf 122))),
  (4051591715, 124, (.tf ne3_28 (.fb .quo (.vf 120) (.vf 121)) (.vf 123))),
  (1501552840, 125, (.tf ne3_20 ne3_29 (.tf (.vb 7) (.vf 124) (.vf 123)))),
  (1780051675, 126, (.tf ne3_12 ne3_6 (.tf ne3_13 ne3_7 (.vf 125)))),
  (3783056424, 127, (.tf ne3_16 ne3_6 (.tf ne3_17 ne3_7 (.vf 125)))),
  (2867591070, 128, (.fb .mul ne3_10 (.vf 126))),
  (2867591071, 129, (.fb .mul ne3_10 (.vf 127))),
  (4110528131, 130, (.tf (.ic .eql ne3_32 (.li 0)) ne3_4 (.tf (.ic .eql ne3_32 (.li 1)) ne3_6 (.tf (.ic .eql ne3_32 (.li 2)) ne3_14 ne3_7)))),
  (2742276704, 131, (.tf (.ic .eql ne3_33 (.li 0)) ne3_4 (.tf (.ic .eql ne3_33 (.li 1)) ne3_6 (.tf (.ic .eql ne3_33 (.li 2)) ne3_14 ne3_7)))),
  (2103053763, 132, (.tf ne3_26 (.fb .sub (.vf 130) (.vf 131)) (.fb .mul (.vf 130) (.vf 131)))),
  (1146205028, 133, (.tf ne3_27 (.fb .add (.vf 130) (.vf 131)) (.vf 132))),
  (1142771106, 134, (.tf ne3_28 (.fb .quo (.vf 130) (.vf 131)) (.vf 133))),
  (1511552880, 135, (.tf ne3_20 ne3_29 (.tf (.vb 7) (.vf 134) (.vf 133)))),
  (2597057509, 136, (.tf ne3_35 ne3_14 (.tf ne3_36 ne3_7 (.vf 135)))),
  (305094967, 137, (.tf ne3_38 ne3_14 (.tf ne3_39 ne3_7 (.vf 135)))),
  (2308099716, 138, (.tf (.ic .eql ne3_40 (.li 0)) ne3_14 (.tf (.ic .eql ne3_40 (.li 1)) ne3_7 (.vf 135)))),
  (2867591080, 139, (.fb .mul ne3_10 (.vf 136))),
  (2867591081, 140, (.fb .mul ne3_10 (.vf 137))),
  (2867591082, 141, (.fb .mul ne3_10 (.vf 138))),
  (3487480674, 142, (.tf (.ic .eql ne3_43 (.li 0)) ne3_4 (.tf (.ic .eql ne3_43 (.li 1)) ne3_7 (.vf 117)))),
  (2575313056, 143, (.tf (.ic .eql ne3_45 (.li 0)) ne3_4 (.tf (.ic .eql ne3_45 (.li 1)) ne3_7 (.vf 117)))),
  (2710283962, 144, (.tf ne3_47 (.fb .sub (.vf 142) (.vf 143)) (.fb .mul (.vf 142) (.vf 143)))),
  (1741435191, 145, (.tf ne3_48 (.fb .add (.vf 142) (.vf 143)) (.vf 144))),
  (1738001269, 146, (.tf ne3_49 (.fb .quo (.vf 142) (.vf 143)) (.vf 145))),
  (832223757, 147, (.tf ne3_41 ne3_50 (.tf (.vb 7) (.vf 146) (.vf 145)))),
  (2678163647, 148, (.tf ne3_12 ne3_7 (.tf ne3_13 (.vf 117) (.vf 147)))),
  (2867591092, 149, (.fb .mul ne3_10 (.vf 148))),
  (4283897443, 150, (.tf ne3_41 ne3_50 (.tf ne3_20 ne3_29 ne3_7))),
  (1732029022, 151, (.tf (.ic .eql ne3_51 (.li 0)) ne3_4 (.tf (.ic .eql ne3_51 (.li 1)) ne3_6 (.tf (.ic .eql ne3_51 (.li 2)) ne3_7 (.vf 125))))),
  (363777595, 152, (.tf (.ic .eql ne3_52 (.li 0)) ne3_4 (.tf (.ic .eql ne3_52 (.li 1)) ne3_6 (.tf (.ic .eql ne3_52 (.li 2)) ne3_7 (.vf 125))))),
  (530842170, 153, (.tf ne3_47 (.fb .sub (.vf 151) (.vf 152)) (.fb .mul (.vf 151) (.vf 152)))),
  (3847960663, 154, (.tf ne3_48 (.fb .add (.vf 151) (.vf 152)) (.vf 153))),
  (3844526741, 155, (.tf ne3_49 (.fb .quo (.vf 151) (.vf 152)) (.vf 154))),
  (841223793, 156, (.tf ne3_41 ne3_50 (.tf (.vb 7) (.vf 155) (.vf 154)))),
  (3091473759, 157, (.tf ne3_35 ne3_7 (.tf ne3_36 (.vf 125) (.vf 156)))),
  (799511217, 158, (.tf ne3_38 ne3_7 (.tf ne3_39 (.vf 125) (.vf 156)))),
  (2867591101, 159, (.fb .mul ne3_10 (.vf 157))),
  (2867591102, 160, (.fb .mul ne3_10 (.vf 158))),
  (1544879773, 161, (.tf (.ic .eql ne3_53 (.li 0)) ne3_4 (.tf (.ic .eql ne3_53 (.li 1)) ne3_6 (.tf (.ic .eql ne3_53 (.li 2)) ne3_14 (.tf (.ic .eql ne3_53 (.li 3)) ne3_7 (.vf 135)))))),
  (4015511828, 162, (.tf (.ic .eql ne3_54 (.li 0)) ne3_4 (.tf (.ic .eql ne3_54 (.li 1)) ne3_6 (.tf (.ic .eql ne3_54 (.li 2)) ne3_14 (.tf (.ic .eql ne3_54 (.li 3)) ne3_7 (.vf 135)))))),
  (1926988882, 163, (.tf ne3_47 (.fb .sub (.vf 161) (.vf 162)) (.fb .mul (.vf 161) (.vf 162)))),
  (939140054, 164, (.tf ne3_48 (.fb .add (.vf 161) (.vf 162)) (.vf 163))),
  (935706132, 165, (.tf ne3_49 (.fb .quo (.vf 161) (.vf 162)) (.vf 164))),
  (851223833, 166, (.tf ne3_41 ne3_50 (.tf (.vb 7) (.vf 165) (.vf 164)))),
  (3506783878, 167, (.tf ne3_56 ne3_7 (.tf ne3_57 (.vf 135) (.vf 166)))),
  (1214821336, 168, (.tf ne3_59 ne3_7 (.tf ne3_60 (.vf 135) (.vf 166)))),
  (3217826085, 169, (.tf (.ic .eql ne3_61 (.li 0)) ne3_7 (.tf (.ic .eql ne3_61 (.li 1)) (.vf 135) (.vf 166)))),
  (2867591111, 170, (.fb .mul ne3_10 (.vf 167))),
  (2867591112, 171, (.fb .mul ne3_10 (.vf 168))),
  (2867591113, 172, (.fb .mul ne3_10 (.vf 169))),
  (1512417298, 173, (.tf (.ic .eql ne3_64 (.li 0)) ne3_4 (.tf (.ic .eql ne3_64 (.li 1)) ne3_7 (.tf (.ic .eql ne3_64 (.li 2)) (.vf 117) (.vf 147))))),
  (144165871, 174, (.tf (.ic .eql ne3_66 (.li 0)) ne3_4 (.tf (.ic .eql ne3_66 (.li 1)) ne3_7 (.tf (.ic .eql ne3_66 (.li 2)) (.vf 117) (.vf 147))))),
  (2534219081, 175, (.tf ne3_68 (.fb .sub (.vf 173) (.vf 174)) (.fb .mul (.vf 173) (.vf 174)))),
  (1534370217, 176, (.tf ne3_69 (.fb .add (.vf 173) (.vf 174)) (.vf 175))),
  (1530936295, 177, (.tf ne3_70 (.fb .quo (.vf 173) (.vf 174)) (.vf 176))),
  (171894710, 178, (.tf ne3_62 ne3_71 (.tf (.vb 7) (.vf 177) (.vf 176)))),
  (1723620795, 179, (.tf ne3_35 (.vf 117) (.tf ne3_36 (.vf 147) (.vf 178)))),
  (2867591123, 180, (.fb .mul ne3_10 (.vf 179))),
  (1684916366, 181, (.tf ne3_62 ne3_71 (.vf 150))),
  (3412309289, 182, (.tf (.ic .eql ne3_72 (.li 0)) ne3_4 (.tf (.ic .eql ne3_72 (.li 1)) ne3_6 (.tf (.ic .eql ne3_72 (.li 2)) ne3_7 (.tf (.ic .eql ne3_72 (.li 3)) (.vf 125) (.vf 156)))))),
  (1587974053, 183, (.tf (.ic .eql ne3_73 (.li 0)) ne3_4 (.tf (.ic .eql ne3_73 (.li 1)) ne3_6 (.tf (.ic .eql ne3_73 (.li 2)) ne3_7 (.tf (.ic .eql ne3_73 (.li 3)) (.vf 125) (.vf 156)))))),
  (354777289, 184, (.tf ne3_68 (.fb .sub (.vf 182) (.vf 183)) (.fb .mul (.vf 182) (.vf 183)))),
  (3640895689, 185, (.tf ne3_69 (.fb .add (.vf 182) (.vf 183)) (.vf 184))),
  (3637461767, 186, (.tf ne3_70 (.fb .quo (.vf 182) (.vf 183)) (.vf 185))),
  (180894746, 187, (.tf ne3_62 ne3_71 (.tf (.vb 7) (.vf 186) (.vf 185)))),
  (2145930934, 188, (.tf ne3_56 (.vf 125) (.tf ne3_57 (.vf 156) (.vf 187)))),
  (4148935683, 189, (.tf ne3_59 (.vf 125) (.tf ne3_60 (.vf 156) (.vf 187)))),
  (2867591132, 190, (.fb .mul ne3_10 (.vf 188))),
  (2867591133, 191, (.fb .mul ne3_10 (.vf 189))),
  (2587536397, 192, (.tf (.ic .eql ne3_74 (.li 0)) ne3_4 (.tf (.ic .eql ne3_74 (.li 1)) ne3_6 (.tf (.ic .eql ne3_74 (.li 2)) ne3_14 (.tf (.ic .eql ne3_74 (.li 3)) ne3_7 (.tf (.ic .eql ne3_74 (.li 4)) (.vf 135) (.vf 166))))))),
  (307117352, 193, (.tf (.ic .eql ne3_75 (.li 0)) ne3_4 (.tf (.ic .eql ne3_75 (.li 1)) ne3_6 (.tf (.ic .eql ne3_75 (.li 2)) ne3_14 (.tf (.ic .eql ne3_75 (.li 3)) ne3_7 (.tf (.ic .eql ne3_75 (.li 4)) (.vf 135) (.vf 166))))))),
  (1750924001, 194, (.tf ne3_68 (.fb .sub (.vf 192) (.vf 193)) (.fb .mul (.vf 192) (.vf 193)))),
  (732075080, 195, (.tf ne3_69 (.fb .add (.vf 192) (.vf 193)) (.vf 194))),
  (728641158, 196, (.tf ne3_70 (.fb .quo (.vf 192) (.vf 193)) (.vf 195))),
  (190894786, 197, (.tf ne3_62 ne3_71 (.tf (.vb 7) (.vf 196) (.vf 195)))),
  (2571241083, 198, (.tf ne3_77 (.vf 135) (.tf ne3_78 (.vf 166) (.vf 197)))),
  (279278541, 199, (.tf ne3_80 (.vf 135) (.tf ne3_81 (.vf 166) (.vf 197)))),
  (2282283290, 200, (.tf (.ic .eql ne3_82 (.li 0)) (.vf 135) (.tf (.ic .eql ne3_82 (.li 1)) (.vf 166) (.vf 197)))),
  (2867591142, 201, (.fb .mul ne3_10 (.vf 198))),
  (2867591143, 202, (.fb .mul ne3_10 (.vf 199))),
  (2867591144, 203, (.fb .mul ne3_10 (.vf 200))),
  (429646709, 204, (.fb .add (.fb .add ne3_83 ne3_87) (.fb .add ne3_87 (.fb .add ne3_86 (.lf 13847282111413597915))))),
  (1410467302, 205, (.tf (.ic .eql ne3_90 (.li 0)) ne3_4 (.tf (.ic .eql ne3_90 (.li 1)) ne3_7 (.tf (.ic .eql ne3_90 (.li 2)) (.vf 117) (.tf (.ic .eql ne3_90 (.li 3)) (.vf 147) (.vf 178)))))),
  (3881099357, 206, (.tf (.ic .eql ne3_92 (.li 0)) ne3_4 (.tf (.ic .eql ne3_92 (.li 1)) ne3_7 (.tf (.ic .eql ne3_92 (.li 2)) (.vf 117) (.tf (.ic .eql ne3_92 (.li 3)) (.vf 147) (.vf 178)))))),
  (1638775413, 207, (.tf ne3_94 (.fb .sub (.vf 205) (.vf 206)) (.fb .mul (.vf 205) (.vf 206)))),
  (606926453, 208, (.tf ne3_95 (.fb .add (.vf 205) (.vf 206)) (.vf 207))),
  (603492531, 209, (.tf ne3_96 (.fb .quo (.vf 205) (.vf 206)) (.vf 208))),
  (3807532958, 210, (.tf ne3_88 ne3_97 (.tf (.vb 7) (.vf 209) (.vf 208)))),
  (2189931089, 211, (.tf ne3_56 (.vf 147) (.tf ne3_57 (.vf 178) (.vf 210)))),
  (2867591155, 212, (.fb .mul ne3_10 (.vf 211))),
  (993587226, 213, (.tf ne3_88 ne3_97 (.vf 181))),
  (2671735647, 214, (.tf (.ic .eql ne3_98 (.li 0)) ne3_4 (.tf (.ic .eql ne3_98 (.li 1)) ne3_6 (.tf (.ic .eql ne3_98 (.li 2)) ne3_7 (.tf (.ic .eql ne3_98 (.li 3)) (.vf 125) (.tf (.ic .eql ne3_98 (.li 4)) (.vf 156) (.vf 187))))))),
  (391316602, 215, (.tf (.ic .eql ne3_99 (.li 0)) ne3_4 (.tf (.ic .eql ne3_99 (.li 1)) ne3_6 (.tf (.ic .eql ne3_99 (.li 2)) ne3_7 (.tf (.ic .eql ne3_99 (.li 3)) (.vf 125) (.tf (.ic .eql ne3_99 (.li 4)) (.vf 156) (.vf 187))))))),
  (3754300912, 216, (.tf ne3_94 (.fb .sub (.vf 214) (.vf 215)) (.fb .mul (.vf 214) (.vf 215)))),
  (2713451925, 217, (.tf ne3_95 (.fb .add (.vf 214) (.vf 215)) (.vf 216))),
  (2710018003, 218, (.tf ne3_96 (.fb .quo (.vf 214) (.vf 215)) (.vf 217))),
  (3816532994, 219, (.tf ne3_88 ne3_97 (.tf (.vb 7) (.vf 218) (.vf 217)))),
  (2613241231, 220, (.tf ne3_77 (.vf 156) (.tf ne3_78 (.vf 187) (.vf 219)))),
  (321278689, 221, (.tf ne3_80 (.vf 156) (.tf ne3_81 (.vf 187) (.vf 219)))),
  (2867591164, 222, (.fb .mul ne3_10 (.vf 220))),
  (2867591165, 223, (.fb .mul ne3_10 (.vf 221))),
  (1209339112, 224, (.tf (.ic .eql ne3_100 (.li 0)) ne3_4 (.tf (.ic .eql ne3_100 (.li 1)) ne3_6 (.tf (.ic .eql ne3_100 (.li 2)) ne3_14 (.tf (.ic .eql ne3_100 (.li 3)) ne3_7 (.tf (.ic .eql ne3_100 (.li 4)) (.vf 135) (.tf (.ic .eql ne3_100 (.li 5)) (.vf 166) (.vf 197)))))))),
  (2767803549, 225, (.tf (.ic .eql ne3_101 (.li 0)) ne3_4 (.tf (.ic .eql ne3_101 (.li 1)) ne3_6 (.tf (.ic .eql ne3_101 (.li 2)) ne3_14 (.tf (.ic .eql ne3_101 (.li 3)) ne3_7 (.tf (.ic .eql ne3_101 (.li 4)) (.vf 135) (.tf (.ic .eql ne3_101 (.li 5)) (.vf 166) (.vf 197)))))))),
  (855480333, 226, (.tf ne3_94 (.fb .sub (.vf 224) (.vf 225)) (.fb .mul (.vf 224) (.vf 225)))),
  (4099598607, 227, (.tf ne3_95 (.fb .add (.vf 224) (.vf 225)) (.vf 226))),
  (4096164685, 228, (.tf ne3_96 (.fb .quo (.vf 224) (.vf 225)) (.vf 227))),
  (3826533034, 229, (.tf ne3_88 ne3_97 (.tf (.vb 7) (.vf 228) (.vf 227)))),
  (3038551380, 230, (.tf ne3_103 (.vf 166) (.tf ne3_104 (.vf 197) (.vf 229)))),
  (746588838, 231, (.tf ne3_106 (.vf 166) (.tf ne3_107 (.vf 197) (.vf 229)))),
  (2749593587, 232, (.tf (.ic .eql ne3_108 (.li 0)) (.vf 166) (.tf (.ic .eql ne3_108 (.li 1)) (.vf 197) (.vf 229)))),
  (2867591174, 233, (.fb .mul ne3_10 (.vf 230))),
  (2867591175, 234, (.fb .mul ne3_10 (.vf 231))),
  (2867591176, 235, (.fb .mul ne3_10 (.vf 232))),
  (2165340491, 236, (.fb .add ne3_111 ne3_112)),
  (907437943, 237, (.fb .add (.fb .add ne3_83 ne3_111) (.vf 236))),
  (4091216301, 238, (.fb .add (.vf 236) (.fb .add ne3_112 ne3_109))),
  (1848530123, 239, (.fb .add (.fb .mul (.fb .add (.fb .mul (.fb .add (.fb .mul (.fb .add (.fb .mul ne3_109 (.vf 4)) ne3_85) (.vf 4)) ne3_84) (.vf 4)) ne3_83) (.vf 4)) ne3_113)),
  (3182630689, 240, (.tf (.ic .eql ne3_116 (.li 0)) ne3_4 (.tf (.ic .eql ne3_116 (.li 1)) ne3_7 (.tf (.ic .eql ne3_116 (.li 2)) (.vf 117) (.tf (.ic .eql ne3_116 (.li 3)) (.vf 147) (.tf (.ic .eql ne3_116 (.li 4)) (.vf 178) (.vf 210))))))),
  (902211644, 241, (.tf (.ic .eql ne3_118 (.li 0)) ne3_4 (.tf (.ic .eql ne3_118 (.li 1)) ne3_7 (.tf (.ic .eql ne3_118 (.li 2)) (.vf 117) (.tf (.ic .eql ne3_118 (.li 3)) (.vf 147) (.tf (.ic .eql ne3_118 (.li 4)) (.vf 178) (.vf 210))))))),
  (2880162675, 242, (.tf ne3_120 (.fb .sub (.vf 240) (.vf 241)) (.fb .mul (.vf 240) (.vf 241)))),
  (1813313610, 243, (.tf ne3_121 (.fb .add (.vf 240) (.vf 241)) (.vf 242))),
  (1809879688, 244, (.tf ne3_122 (.fb .quo (.vf 240) (.vf 241)) (.vf 243))),
  (3151203927, 245, (.tf ne3_114 ne3_123 (.tf (.vb 7) (.vf 244) (.vf 243)))),
  (2658241392, 246, (.tf ne3_77 (.vf 178) (.tf ne3_78 (.vf 210) (.vf 245)))),
  (2867591190, 247, (.fb .mul ne3_10 (.vf 246))),
  (302258087, 248, (.tf ne3_114 ne3_123 (.vf 213))),
  (3805275388, 249, (.tf (.ic .eql ne3_124 (.li 0)) ne3_4 (.tf (.ic .eql ne3_124 (.li 1)) ne3_6 (.tf (.ic .eql ne3_124 (.li 2)) ne3_7 (.tf (.ic .eql ne3_124 (.li 3)) (.vf 125) (.tf (.ic .eql ne3_124 (.li 4)) (.vf 156) (.tf (.ic .eql ne3_124 (.li 5)) (.vf 187) (.vf 219)))))))),
  (1068772534, 250, (.tf (.ic .eql ne3_125 (.li 0)) ne3_4 (.tf (.ic .eql ne3_125 (.li 1)) ne3_6 (.tf (.ic .eql ne3_125 (.li 2)) ne3_7 (.tf (.ic .eql ne3_125 (.li 3)) (.vf 125) (.tf (.ic .eql ne3_125 (.li 4)) (.vf 156) (.tf (.ic .eql ne3_125 (.li 5)) (.vf 187) (.vf 219)))))))),
  (700720883, 251, (.tf ne3_120 (.fb .sub (.vf 249) (.vf 250)) (.fb .mul (.vf 249) (.vf 250)))),
  (3919839082, 252, (.tf ne3_121 (.fb .add (.vf 249) (.vf 250)) (.vf 251))),
  (3916405160, 253, (.tf ne3_122 (.fb .quo (.vf 249) (.vf 250)) (.vf 252))),
  (3160203963, 254, (.tf ne3_114 ne3_123 (.tf (.vb 7) (.vf 253) (.vf 252)))),
  (3081551534, 255, (.tf ne3_103 (.vf 187) (.tf ne3_104 (.vf 219) (.vf 254)))),
  (789588992, 256, (.tf ne3_106 (.vf 187) (.tf ne3_107 (.vf 219) (.vf 254)))),
  (2867591199, 257, (.fb .mul ne3_10 (.vf 255))),
  (2867591200, 258, (.fb .mul ne3_10 (.vf 256))),
  (1705255210, 259, (.tf (.ic .eql ne3_126 (.li 0)) ne3_4 (.tf (.ic .eql ne3_126 (.li 1)) ne3_6 (.tf (.ic .eql ne3_126 (.li 2)) ne3_14 (.tf (.ic .eql ne3_126 (.li 3)) ne3_7 (.tf (.ic .eql ne3_126 (.li 4)) (.vf 135) (.tf (.ic .eql ne3_126 (.li 5)) (.vf 166) (.tf (.ic .eql ne3_126 (.li 6)) (.vf 197) (.vf 229))))))))),
  (2807635838, 260, (.tf (.ic .eql ne3_127 (.li 0)) ne3_4 (.tf (.ic .eql ne3_127 (.li 1)) ne3_6 (.tf (.ic .eql ne3_127 (.li 2)) ne3_14 (.tf (.ic .eql ne3_127 (.li 3)) ne3_7 (.tf (.ic .eql ne3_127 (.li 4)) (.vf 135) (.tf (.ic .eql ne3_127 (.li 5)) (.vf 166) (.tf (.ic .eql ne3_127 (.li 6)) (.vf 197) (.vf 229))))))))),
  (2096867595, 261, (.tf ne3_120 (.fb .sub (.vf 259) (.vf 260)) (.fb .mul (.vf 259) (.vf 260)))),
  (1011018473, 262, (.tf ne3_121 (.fb .add (.vf 259) (.vf 260)) (.vf 261))),
  (1007584551, 263, (.tf ne3_122 (.fb .quo (.vf 259) (.vf 260)) (.vf 262))),
  (3170204003, 264, (.tf ne3_114 ne3_123 (.tf (.vb 7) (.vf 263) (.vf 262)))),
  (3506861683, 265, (.tf ne3_129 (.vf 197) (.tf ne3_130 (.vf 229) (.vf 264)))),
  (1214899141, 266, (.tf ne3_132 (.vf 197) (.tf ne3_133 (.vf 229) (.vf 264)))),
  (3217903890, 267, (.tf (.ic .eql ne3_134 (.li 0)) (.vf 197) (.tf (.ic .eql ne3_134 (.li 1)) (.vf 229) (.vf 264)))),
  (2867591209, 268, (.fb .mul ne3_10 (.vf 265))),
  (2867591210, 269, (.fb .mul ne3_10 (.vf 266))),
  (2867591211, 270, (.fb .mul ne3_10 (.vf 267))),
  (2534940173, 271, (.tf (.ic .eql ne3_137 (.li 0)) ne3_4 (.tf (.ic .eql ne3_137 (.li 1)) ne3_7 (.tf (.ic .eql ne3_137 (.li 2)) (.vf 117) (.tf (.ic .eql ne3_137 (.li 3)) (.vf 147) (.tf (.ic .eql ne3_137 (.li 4)) (.vf 178) (.tf (.ic .eql ne3_137 (.li 5)) (.vf 210) (.vf 245)))))))),
  (4093404610, 272, (.tf (.ic .eql ne3_139 (.li 0)) ne3_4 (.tf (.ic .eql ne3_139 (.li 1)) ne3_7 (.tf (.ic .eql ne3_139 (.li 2)) (.vf 117) (.tf (.ic .eql ne3_139 (.li 3)) (.vf 147) (.tf (.ic .eql ne3_139 (.li 4)) (.vf 178) (.tf (.ic .eql ne3_139 (.li 5)) (.vf 210) (.vf 245)))))))),
  (2704097794, 273, (.tf ne3_141 (.fb .sub (.vf 271) (.vf 272)) (.fb .mul (.vf 271) (.vf 272)))),
  (1606248636, 274, (.tf ne3_142 (.fb .add (.vf 271) (.vf 272)) (.vf 273))),
  (1602814714, 275, (.tf ne3_143 (.fb .quo (.vf 271) (.vf 272)) (.vf 274))),
  (2490874880, 276, (.tf ne3_135 ne3_144 (.tf (.vb 7) (.vf 275) (.vf 274)))),
  (3130551703, 277, (.tf ne3_103 (.vf 210) (.tf ne3_104 (.vf 245) (.vf 276)))),
  (2867591221, 278, (.fb .mul ne3_10 (.vf 277))),
  (3905896242, 279, (.tf ne3_135 ne3_144 (.vf 248))),
  (2518961226, 280, (.tf (.ic .eql ne3_145 (.li 0)) ne3_4 (.tf (.ic .eql ne3_145 (.li 1)) ne3_6 (.tf (.ic .eql ne3_145 (.li 2)) ne3_7 (.tf (.ic .eql ne3_145 (.li 3)) (.vf 125) (.tf (.ic .eql ne3_145 (.li 4)) (.vf 156) (.tf (.ic .eql ne3_145 (.li 5)) (.vf 187) (.tf (.ic .eql ne3_145 (.li 6)) (.vf 219) (.vf 254))))))))),
  (3621341854, 281, (.tf (.ic .eql ne3_146 (.li 0)) ne3_4 (.tf (.ic .eql ne3_146 (.li 1)) ne3_6 (.tf (.ic .eql ne3_146 (.li 2)) ne3_7 (.tf (.ic .eql ne3_146 (.li 3)) (.vf 125) (.tf (.ic .eql ne3_146 (.li 4)) (.vf 156) (.tf (.ic .eql ne3_146 (.li 5)) (.vf 187) (.tf (.ic .eql ne3_146 (.li 6)) (.vf 219) (.vf 254))))))))),
  (524656002, 282, (.tf ne3_141 (.fb .sub (.vf 280) (.vf 281)) (.fb .mul (.vf 280) (.vf 281)))),
  (3712774108, 283, (.tf ne3_142 (.fb .add (.vf 280) (.vf 281)) (.vf 282))),
  (3709340186, 284, (.tf ne3_143 (.fb .quo (.vf 280) (.vf 281)) (.vf 283))),
  (2499874916, 285, (.tf ne3_135 ne3_144 (.tf (.vb 7) (.vf 284) (.vf 283)))),
  (3553861845, 286, (.tf ne3_129 (.vf 219) (.tf ne3_130 (.vf 254) (.vf 285)))),
  (1261899303, 287, (.tf ne3_132 (.vf 219) (.tf ne3_133 (.vf 254) (.vf 285)))),
  (2867591230, 288, (.fb .mul ne3_10 (.vf 286))),
  (2867591231, 289, (.fb .mul ne3_10 (.vf 287))),
  (4076284696, 290, (.tf (.ic .eql ne3_147 (.li 0)) ne3_4 (.tf (.ic .eql ne3_147 (.li 1)) ne3_6 (.tf (.ic .eql ne3_147 (.li 2)) ne3_14 (.tf (.ic .eql ne3_147 (.li 3)) ne3_7 (.tf (.ic .eql ne3_147 (.li 4)) (.vf 135) (.tf (.ic .eql ne3_147 (.li 5)) (.vf 166) (.tf (.ic .eql ne3_147 (.li 6)) (.vf 197) (.tf (.ic .eql ne3_147 (.li 7)) (.vf 229) (.vf 264)))))))))),
  (427614224, 291, (.tf (.ic .eql ne3_148 (.li 0)) ne3_4 (.tf (.ic .eql ne3_148 (.li 1)) ne3_6 (.tf (.ic .eql ne3_148 (.li 2)) ne3_14 (.tf (.ic .eql ne3_148 (.li 3)) ne3_7 (.tf (.ic .eql ne3_148 (.li 4)) (.vf 135) (.tf (.ic .eql ne3_148 (.li 5)) (.vf 166) (.tf (.ic .eql ne3_148 (.li 6)) (.vf 197) (.tf (.ic .eql ne3_148 (.li 7)) (.vf 229) (.vf 264)))))))))),
  (1920802714, 292, (.tf ne3_141 (.fb .sub (.vf 290) (.vf 291)) (.fb .mul (.vf 290) (.vf 291)))),
  (803953499, 293, (.tf ne3_142 (.fb .add (.vf 290) (.vf 291)) (.vf 292))),
  (800519577, 294, (.tf ne3_143 (.fb .quo (.vf 290) (.vf 291)) (.vf 293))),
  (2509874956, 295, (.tf ne3_135 ne3_144 (.tf (.vb 7) (.vf 294) (.vf 293)))),
  (3979171994, 296, (.tf ne3_150 (.vf 229) (.tf ne3_151 (.vf 264) (.vf 295)))),
  (1687209452, 297, (.tf ne3_153 (.vf 229) (.tf ne3_154 (.vf 264) (.vf 295)))),
  (3690214201, 298, (.tf (.ic .eql ne3_155 (.li 0)) (.vf 229) (.tf (.ic .eql ne3_155 (.li 1)) (.vf 264) (.vf 295)))),
  (2867591240, 299, (.fb .mul ne3_10 (.vf 296))),
  (2867591241, 300, (.fb .mul ne3_10 (.vf 297))),
  (2867591242, 301, (.fb .mul ne3_10 (.vf 298))),
  (3765363047, 302, (.tf (.ic .eql ne3_158 (.li 0)) ne3_4 (.tf (.ic .eql ne3_158 (.li 1)) ne3_7 (.tf (.ic .eql ne3_158 (.li 2)) (.vf 117) (.tf (.ic .eql ne3_158 (.li 3)) (.vf 147) (.tf (.ic .eql ne3_158 (.li 4)) (.vf 178) (.tf (.ic .eql ne3_158 (.li 5)) (.vf 210) (.tf (.ic .eql ne3_158 (.li 6)) (.vf 245) (.vf 276))))))))),
  (572776384, 303, (.tf (.ic .eql ne3_160 (.li 0)) ne3_4 (.tf (.ic .eql ne3_160 (.li 1)) ne3_7 (.tf (.ic .eql ne3_160 (.li 2)) (.vf 117) (.tf (.ic .eql ne3_160 (.li 3)) (.vf 147) (.tf (.ic .eql ne3_160 (.li 4)) (.vf 178) (.tf (.ic .eql ne3_160 (.li 5)) (.vf 210) (.tf (.ic .eql ne3_160 (.li 6)) (.vf 245) (.vf 276))))))))),
  (2528032913, 304, (.tf ne3_162 (.fb .sub (.vf 302) (.vf 303)) (.fb .mul (.vf 302) (.vf 303)))),
  (1399183662, 305, (.tf ne3_163 (.fb .add (.vf 302) (.vf 303)) (.vf 304))),
  (1395749740, 306, (.tf ne3_164 (.fb .quo (.vf 302) (.vf 303)) (.vf 305))),
  (1830545833, 307, (.tf ne3_156 ne3_165 (.tf (.vb 7) (.vf 306) (.vf 305)))),
  (3601862011, 308, (.tf ne3_129 (.vf 245) (.tf ne3_130 (.vf 276) (.vf 307)))),
  (2867591252, 309, (.fb .mul ne3_10 (.vf 308))),
  (3214567102, 310, (.tf ne3_156 ne3_165 (.vf 279))),
  (997712394, 311, (.fb .add (.fb .add ne3_84 ne3_168) (.fb .add ne3_168 (.fb .add ne3_167 (.lf 13847282111413597915))))),
  (3110760454, 312, (.tf (.ic .eql ne3_169 (.li 0)) ne3_4 (.tf (.ic .eql ne3_169 (.li 1)) ne3_6 (.tf (.ic .eql ne3_169 (.li 2)) ne3_7 (.tf (.ic .eql ne3_169 (.li 3)) (.vf 125) (.tf (.ic .eql ne3_169 (.li 4)) (.vf 156) (.tf (.ic .eql ne3_169 (.li 5)) (.vf 187) (.tf (.ic .eql ne3_169 (.li 6)) (.vf 219) (.tf (.ic .eql ne3_169 (.li 7)) (.vf 254) (.vf 285)))))))))),
  (3757057273, 313, (.tf (.ic .eql ne3_170 (.li 0)) ne3_4 (.tf (.ic .eql ne3_170 (.li 1)) ne3_6 (.tf (.ic .eql ne3_170 (.li 2)) ne3_7 (.tf (.ic .eql ne3_170 (.li 3)) (.vf 125) (.tf (.ic .eql ne3_170 (.li 4)) (.vf 156) (.tf (.ic .eql ne3_170 (.li 5)) (.vf 187) (.tf (.ic .eql ne3_170 (.li 6)) (.vf 219) (.tf (.ic .eql ne3_170 (.li 7)) (.vf 254) (.vf 285)))))))))),
  (3924179625, 314, (.tf ne3_162 (.fb .sub (.vf 312) (.vf 313)) (.fb .mul (.vf 312) (.vf 313)))),
  (2785330344, 315, (.tf ne3_163 (.fb .add (.vf 312) (.vf 313)) (.vf 314))),
  (2781896422, 316, (.tf ne3_164 (.fb .quo (.vf 312) (.vf 313)) (.vf 315))),
  (1840545873, 317, (.tf ne3_156 ne3_165 (.tf (.vb 7) (.vf 316) (.vf 315)))),
  (4025172154, 318, (.tf ne3_150 (.vf 254) (.tf ne3_151 (.vf 285) (.vf 317)))),
  (1733209612, 319, (.tf ne3_153 (.vf 254) (.tf ne3_154 (.vf 285) (.vf 317)))),
  (2867591262, 320, (.fb .mul ne3_10 (.vf 318))),
  (2867591263, 321, (.fb .mul ne3_10 (.vf 319))),
  (4030460281, 322, (.tf (.ic .eql ne3_171 (.li 0)) ne3_4 (.tf (.ic .eql ne3_171 (.li 1)) ne3_6 (.tf (.ic .eql ne3_171 (.li 2)) ne3_14 (.tf (.ic .eql ne3_171 (.li 3)) ne3_7 (.tf (.ic .eql ne3_171 (.li 4)) (.vf 135) (.tf (.ic .eql ne3_171 (.li 5)) (.vf 166) (.tf (.ic .eql ne3_171 (.li 6)) (.vf 197) (.tf (.ic .eql ne3_171 (.li 7)) (.vf 229) (.tf (.ic .eql ne3_171 (.li 8)) (.vf 264) (.vf 295))))))))))),
  (4220673291, 323, (.tf (.ic .eql ne3_172 (.li 0)) ne3_4 (.tf (.ic .eql ne3_172 (.li 1)) ne3_6 (.tf (.ic .eql ne3_172 (.li 2)) ne3_14 (.tf (.ic .eql ne3_172 (.li 3)) ne3_7 (.tf (.ic .eql ne3_172 (.li 4)) (.vf 135) (.tf (.ic .eql ne3_172 (.li 5)) (.vf 166) (.tf (.ic .eql ne3_172 (.li 6)) (.vf 197) (.tf (.ic .eql ne3_172 (.li 7)) (.vf 229) (.tf (.ic .eql ne3_172 (.li 8)) (.vf 264) (.vf 295))))))))))),
  (1025359046, 324, (.tf ne3_162 (.fb .sub (.vf 322) (.vf 323)) (.fb .mul (.vf 322) (.vf 323)))),
  (4171477026, 325, (.tf ne3_163 (.fb .add (.vf 322) (.vf 323)) (.vf 324))),
  (4168043104, 326, (.tf ne3_164 (.fb .quo (.vf 322) (.vf 323)) (.vf 325))),
  (1850545913, 327, (.tf ne3_156 ne3_165 (.tf (.vb 7) (.vf 326) (.vf 325)))),
  (155515012, 328, (.tf ne3_174 (.vf 264) (.tf ne3_175 (.vf 295) (.vf 327)))),
  (2158519761, 329, (.tf ne3_177 (.vf 264) (.tf ne3_178 (.vf 295) (.vf 327)))),
  (4161524510, 330, (.tf (.ic .eql ne3_179 (.li 0)) (.vf 264) (.tf (.ic .eql ne3_179 (.li 1)) (.vf 295) (.vf 327)))),
  (2867591272, 331, (.fb .mul ne3_10 (.vf 328))),
  (2867591273, 332, (.fb .mul ne3_10 (.vf 329))),
  (2867591274, 333, (.fb .mul ne3_10 (.vf 330))),
  (2574932012, 334, (.tf (.ic .eql ne3_182 (.li 0)) ne3_4 (.tf (.ic .eql ne3_182 (.li 1)) ne3_7 (.tf (.ic .eql ne3_182 (.li 2)) (.vf 117) (.tf (.ic .eql ne3_182 (.li 3)) (.vf 147) (.tf (.ic .eql ne3_182 (.li 4)) (.vf 178) (.tf (.ic .eql ne3_182 (.li 5)) (.vf 210) (.tf (.ic .eql ne3_182 (.li 6)) (.vf 245) (.tf (.ic .eql ne3_182 (.li 7)) (.vf 276) (.vf 307)))))))))),
  (3221228831, 335, (.tf (.ic .eql ne3_184 (.li 0)) ne3_4 (.tf (.ic .eql ne3_184 (.li 1)) ne3_7 (.tf (.ic .eql ne3_184 (.li 2)) (.vf 117) (.tf (.ic .eql ne3_184 (.li 3)) (.vf 147) (.tf (.ic .eql ne3_184 (.li 4)) (.vf 178) (.tf (.ic .eql ne3_184 (.li 5)) (.vf 210) (.tf (.ic .eql ne3_184 (.li 6)) (.vf 245) (.tf (.ic .eql ne3_184 (.li 7)) (.vf 276) (.vf 307)))))))))),
  (1632589245, 336, (.tf ne3_186 (.fb .sub (.vf 334) (.vf 335)) (.fb .mul (.vf 334) (.vf 335)))),
  (471739898, 337, (.tf ne3_187 (.fb .add (.vf 334) (.vf 335)) (.vf 336))),
  (468305976, 338, (.tf ne3_188 (.fb .quo (.vf 334) (.vf 335)) (.vf 337))),
  (1171216790, 339, (.tf ne3_180 ne3_189 (.tf (.vb 7) (.vf 338) (.vf 337)))),
  (4069172308, 340, (.tf ne3_150 (.vf 276) (.tf ne3_151 (.vf 307) (.vf 339)))),
  (2867591284, 341, (.fb .mul ne3_10 (.vf 340))),
  (2523237962, 342, (.tf ne3_180 ne3_189 (.vf 310))),
  (3511960543, 343, (.fb .add ne3_113 ne3_193)),
  (130992029, 344, (.fb .add ne3_83 ne3_200)),
  (634423072, 345, (.fb .add ne3_192 ne3_201)),
  (200960834, 346, (.fb .add ne3_199 ne3_202)),
  (2349794531, 347, (.fb .add ne3_193 (.vf 345))),
  (3190002016, 348, (.fb .add ne3_200 (.vf 346))),
  (3636243928, 349, (.fb .add ne3_201 ne3_190)),
  (2337319394, 350, (.fb .add ne3_202 ne3_197)),
  (3130519100, 351, (.fb .add (.vf 349) ne3_190)),
  (1446153636, 352, (.fb .add (.vf 350) ne3_197)),
  (2103681941, 353, (.fb .mul (.fb .add (.fb .mul (.fb .add (.fb .mul (.fb .add (.fb .mul ne3_190 (.vf 4)) ne3_166) (.vf 4)) ne3_109) (.vf 4)) ne3_84) (.vf 4))),
  (2849872119, 354, (.fb .add (.vf 353) ne3_113)),
  (2084574280, 355, (.fb .mul (.fb .add (.fb .mul (.fb .add (.fb .mul (.fb .add (.fb .mul ne3_197 (.vf 4)) ne3_195) (.vf 4)) ne3_194) (.vf 4)) ne3_85) (.vf 4))),
  (304964812, 356, (.fb .add (.vf 355) ne3_83)),
  (1281705774, 357, (.tf (.ic .eql ne3_203 (.li 0)) ne3_4 (.tf (.ic .eql ne3_203 (.li 1)) ne3_6 (.tf (.ic .eql ne3_203 (.li 2)) ne3_7 (.tf (.ic .eql ne3_203 (.li 3)) (.vf 125) (.tf (.ic .eql ne3_203 (.li 4)) (.vf 156) (.tf (.ic .eql ne3_203 (.li 5)) (.vf 187) (.tf (.ic .eql ne3_203 (.li 6)) (.vf 219) (.tf (.ic .eql ne3_203 (.li 7)) (.vf 254) (.tf (.ic .eql ne3_203 (.li 8)) (.vf 285) (.vf 317))))))))))),
  (1471918784, 358, (.tf (.ic .eql ne3_204 (.li 0)) ne3_4 (.tf (.ic .eql ne3_204 (.li 1)) ne3_6 (.tf (.ic .eql ne3_204 (.li 2)) ne3_7 (.tf (.ic .eql ne3_204 (.li 3)) (.vf 125) (.tf (.ic .eql ne3_204 (.li 4)) (.vf 156) (.tf (.ic .eql ne3_204 (.li 5)) (.vf 187) (.tf (.ic .eql ne3_204 (.li 6)) (.vf 219) (.tf (.ic .eql ne3_204 (.li 7)) (.vf 254) (.tf (.ic .eql ne3_204 (.li 8)) (.vf 285) (.vf 317))))))))))),
  (2266746308, 359, (.tf ne3_186 (.fb .sub (.vf 357) (.vf 358)) (.fb .mul (.vf 357) (.vf 358)))),
  (1082896892, 360, (.tf ne3_187 (.fb .add (.vf 357) (.vf 358)) (.vf 359))),
  (1079462970, 361, (.tf ne3_188 (.fb .quo (.vf 357) (.vf 358)) (.vf 360))),
  (1194216882, 362, (.tf ne3_180 ne3_189 (.tf (.vb 7) (.vf 361) (.vf 360)))),
  (198515176, 363, (.tf ne3_174 (.vf 285) (.tf ne3_175 (.vf 317) (.vf 362)))),
  (2201519925, 364, (.tf ne3_177 (.vf 285) (.tf ne3_178 (.vf 317) (.vf 362)))),
  (2867591307, 365, (.fb .mul ne3_10 (.vf 363))),
  (2867591308, 366, (.fb .mul ne3_10 (.vf 364))),
  (474707455, 367, (.fb .add ne3_194 ne3_208)),
  (3308360869, 368, (.fb .add ne3_113 ne3_213)),
  (3984214330, 369, (.fb .add ne3_83 ne3_218)),
  (2173329466, 370, (.fb .add ne3_84 (.vf 367))),
  (364607461, 371, (.fb .add ne3_212 ne3_219)),
  (2562976063, 372, (.fb .add ne3_217 ne3_220)),
  (2193052275, 373, (.fb .add ne3_208 ne3_221)),
  (694458099, 374, (.fb .add ne3_213 (.vf 371))),
  (2850581004, 375, (.fb .add ne3_218 (.vf 372))),
  (89732427, 376, (.fb .add ne3_219 ne3_210)),
  (310133827, 377, (.fb .add ne3_220 ne3_215)),
  (530535227, 378, (.fb .add ne3_221 ne3_206)),
  (3906413944, 379, (.fb .add (.vf 376) ne3_210)),
  (2222048480, 380, (.fb .add (.vf 377) ne3_215)),
  (537683016, 381, (.fb .add (.vf 378) ne3_206)),
  (1463705108, 382, (.fb .add (.fb .mul (.fb .add (.fb .mul (.fb .add (.fb .mul ne3_210 (.vf 4)) ne3_209) (.vf 4)) ne3_166) (.vf 4)) ne3_85)),
  (2864635544, 383, (.fb .add (.fb .mul (.vf 382) (.vf 4)) ne3_113)),
  (1385610138, 384, (.fb .add (.fb .mul (.fb .add (.fb .mul (.fb .add (.fb .mul ne3_215 (.vf 4)) ne3_214) (.vf 4)) ne3_195) (.vf 4)) ne3_109)),
  (3169937934, 385, (.fb .add (.fb .mul (.vf 384) (.vf 4)) ne3_83)),
  (3034190069, 386, (.fb .add (.fb .mul (.fb .add (.fb .mul (.fb .add (.fb .mul ne3_206 (.vf 4)) ne3_205) (.vf 4)) ne3_190) (.vf 4)) ne3_194)),
  (3475240324, 387, (.fb .add (.fb .mul (.vf 386) (.vf 4)) ne3_84)),
  (1563781958, 388, (.tf (.ic .eql ne3_222 (.li 0)) ne3_4 (.tf (.ic .eql ne3_222 (.li 1)) ne3_6 (.tf (.ic .eql ne3_222 (.li 2)) ne3_14 (.tf (.ic .eql ne3_222 (.li 3)) ne3_7 (.tf (.ic .eql ne3_222 (.li 4)) (.vf 135) (.tf (.ic .eql ne3_222 (.li 5)) (.vf 166) (.tf (.ic .eql ne3_222 (.li 6)) (.vf 197) (.tf (.ic .eql ne3_222 (.li 7)) (.vf 229) (.tf (.ic .eql ne3_222 (.li 8)) (.vf 264) (.tf (.ic .eql ne3_222 (.li 9)) (.vf 295) (.vf 327)))))))))))),
  (1297911159, 389, (.tf (.ic .eql ne3_223 (.li 0)) ne3_4 (.tf (.ic .eql ne3_223 (.li 1)) ne3_6 (.tf (.ic .eql ne3_223 (.li 2)) ne3_14 (.tf (.ic .eql ne3_223 (.li 3)) ne3_7 (.tf (.ic .eql ne3_223 (.li 4)) (.vf 135) (.tf (.ic .eql ne3_223 (.li 5)) (.vf 166) (.tf (.ic .eql ne3_223 (.li 6)) (.vf 197) (.tf (.ic .eql ne3_223 (.li 7)) (.vf 229) (.tf (.ic .eql ne3_223 (.li 8)) (.vf 264) (.tf (.ic .eql ne3_223 (.li 9)) (.vf 295) (.vf 327)))))))))))),
  (1440840366, 390, (.tf ne3_186 (.fb .sub (.vf 388) (.vf 389)) (.fb .mul (.vf 388) (.vf 389)))),
  (225990857, 391, (.tf ne3_187 (.fb .add (.vf 388) (.vf 389)) (.vf 390))),
  (222556935, 392, (.tf ne3_188 (.fb .quo (.vf 388) (.vf 389)) (.vf 391))),
  (1225217006, 393, (.tf ne3_180 ne3_189 (.tf (.vb 7) (.vf 392) (.vf 391)))),
  (623825346, 394, (.tf (.ic .eql ne3_224 (.li 0)) (.vf 295) (.tf (.ic .eql ne3_224 (.li 1)) (.vf 327) (.vf 393)))),
  (2626830095, 395, (.tf (.ic .eql ne3_225 (.li 0)) (.vf 295) (.tf (.ic .eql ne3_225 (.li 1)) (.vf 327) (.vf 393)))),
  (334867553, 396, (.tf (.ic .eql ne3_226 (.li 0)) (.vf 295) (.tf (.ic .eql ne3_226 (.li 1)) (.vf 327) (.vf 393)))),
  (2867591338, 397, (.fb .mul ne3_10 (.vf 394))),
  (2867591339, 398, (.fb .mul ne3_10 (.vf 395))),
  (2867591340, 399, (.fb .mul ne3_10 (.vf 396)))]
set_option maxRecDepth 1000000 in
set_option maxHeartbeats 100000000 in
theorem nG3 : tabGood 100 nN3 = true := by kernel_rfl
end Go.Proofs.Ytkncchofgehnpaa
