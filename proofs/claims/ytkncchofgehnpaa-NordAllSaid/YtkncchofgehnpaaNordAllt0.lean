/-
  'NordAll': what names stand for, where the first rest is 0.
-/
import Derived.Test.YtkncchofgehnpaaM8n
namespace Go.Proofs.Ytkncchofgehnpaa
open Go.RowKit Ex
def ne0_0 : E := (.ib .quo .i64 (.vi 1) (.li 3))
def ne0_1 : E := (.ai 9 0 (.ci (.ib .add .i64 ne0_0 (.li 0)) (.ci (.li 3) .n0)))
def ne0_2 : E := (.ib .sub .i64 (.li 2) ne0_1)
def ne0_3 : E := (.ic .eql ne0_2 (.li 0))
def ne0_4 : E := (.fb .quo (.i2f (.ib .sub .i64 (.ai 9 0 (.ci (.ti (.ic .lss (.li 0) (.vl 5)) (.at 5 0) (.li 0)) (.ci (.li 65) .n0))) (.li 32))) (.lf 4620693217682128896))
def ne0_5 : E := (.ic .eql ne0_2 (.li 1))
def ne0_6 : E := (.fb .quo (.i2f (.ib .sub .i64 (.ai 9 0 (.ci (.ti (.ic .lss (.li 1) (.vl 5)) (.at 5 1) (.li 1)) (.ci (.li 65) .n0))) (.li 32))) (.lf 4620693217682128896))
def ne0_7 : E := (.fb .quo (.i2f (.ib .sub .i64 (.ai 9 0 (.ci (.vi 1) (.ci (.li 17) .n0))) (.li 8))) (.lf 4616189618054758400))
def ne0_8 : E := (.ai 9 0 (.ci (.ib .add .i64 ne0_0 (.li 1)) (.ci (.li 3) .n0)))
def ne0_9 : E := (.ib .sub .i64 (.li 2) ne0_8)
def ne0_10 : E := (.fb .quo (.i2f (.ib .shl .i64 (.li 1) (.iw .u64 (.ai 9 0 (.ci (.vi 6) (.ci (.li 33) .n0)))))) (.lf 4742290407621132288))
def ne0_11 : E := (.ib .sub .i64 (.ib .sub .i64 (.li 3) ne0_1) (.li 1))
def ne0_12 : E := (.ic .eql ne0_11 (.li 0))
def ne0_13 : E := (.ic .eql ne0_11 (.li 1))
def ne0_14 : E := (.fb .quo (.i2f (.ib .sub .i64 (.ai 9 0 (.ci (.ti (.ic .lss (.li 2) (.vl 5)) (.at 5 2) (.li 2)) (.ci (.li 65) .n0))) (.li 32))) (.lf 4620693217682128896))
def ne0_15 : E := (.ib .sub .i64 (.ib .sub .i64 (.li 3) ne0_8) (.li 1))
def ne0_16 : E := (.ic .eql ne0_15 (.li 0))
def ne0_17 : E := (.ic .eql ne0_15 (.li 1))
def ne0_18 : E := (.ai 9 0 (.ci (.ib .add .i64 ne0_0 (.li 2)) (.ci (.li 3) .n0)))
def ne0_19 : E := (.ib .sub .i64 (.ib .sub .i64 (.li 3) ne0_18) (.li 1))
def ne0_20 : E := (.ic .eql (.ai 9 0 (.ci (.at 2 0) (.ci (.li 11) .n0))) (.li 0))
def ne0_21 : E := (.ib .quo .i64 (.at 2 0) (.li 4))
def ne0_22 : E := (.tf (.ic .eql (.ti ne0_20 (.li 0) (.ai 9 0 (.ci ne0_21 (.ci (.li 2) .n0)))) (.li 0)) ne0_4 ne0_7)
def ne0_23 : E := (.ib .quo .i64 (.at 2 0) (.li 40))
def ne0_24 : E := (.tf (.ic .eql (.ti ne0_20 (.li 0) (.ai 9 0 (.ci ne0_23 (.ci (.li 2) .n0)))) (.li 0)) ne0_4 ne0_7)
def ne0_25 : E := (.ib .add .i64 (.li 2) (.ai 9 0 (.ci (.at 2 0) (.ci (.li 3) .n0))))
def ne0_26 : E := (.ic .eql ne0_25 (.li 3))
def ne0_27 : E := (.ic .eql ne0_25 (.li 2))
def ne0_28 : E := (.ic .eql (.ai 9 0 (.ci (.at 2 0) (.ci (.li 7) .n0))) (.li 0))
def ne0_29 : E := (.tf ne0_20 (.fb .quo (.i2f (.ib .sub .i64 (.ai 9 0 (.ci (.ib .quo .i64 (.at 2 0) (.li 11)) (.ci (.li 33) .n0))) (.li 16))) (.lf 4620693217682128896)) (.lf 0))
def ne0_30 : E := (.ti ne0_20 (.li 0) (.ai 9 0 (.ci ne0_21 (.ci (.li 3) .n0))))
def ne0_31 : E := (.ti ne0_20 (.li 0) (.ai 9 0 (.ci ne0_23 (.ci (.li 3) .n0))))
def ne0_32 : E := (.ti ne0_20 (.li 0) (.ai 9 0 (.ci ne0_21 (.ci (.li 4) .n0))))
def ne0_33 : E := (.ti ne0_20 (.li 0) (.ai 9 0 (.ci ne0_23 (.ci (.li 4) .n0))))
def ne0_34 : E := (.ib .sub .i64 (.ib .sub .i64 (.li 4) ne0_1) (.li 2))
def ne0_35 : E := (.ic .eql ne0_34 (.li 0))
def ne0_36 : E := (.ic .eql ne0_34 (.li 1))
def ne0_37 : E := (.ib .sub .i64 (.ib .sub .i64 (.li 4) ne0_8) (.li 2))
def ne0_38 : E := (.ic .eql ne0_37 (.li 0))
def ne0_39 : E := (.ic .eql ne0_37 (.li 1))
def ne0_40 : E := (.ib .sub .i64 (.ib .sub .i64 (.li 4) ne0_18) (.li 2))
def ne0_41 : E := (.ic .eql (.ai 9 0 (.ci (.at 2 1) (.ci (.li 11) .n0))) (.li 0))
def ne0_42 : E := (.ib .quo .i64 (.at 2 1) (.li 4))
def ne0_43 : E := (.ti ne0_41 (.li 0) (.ai 9 0 (.ci ne0_42 (.ci (.li 3) .n0))))
def ne0_44 : E := (.ib .quo .i64 (.at 2 1) (.li 40))
def ne0_45 : E := (.ti ne0_41 (.li 0) (.ai 9 0 (.ci ne0_44 (.ci (.li 3) .n0))))
def ne0_46 : E := (.ib .add .i64 (.li 2) (.ai 9 0 (.ci (.at 2 1) (.ci (.li 3) .n0))))
def ne0_47 : E := (.ic .eql ne0_46 (.li 3))
def ne0_48 : E := (.ic .eql ne0_46 (.li 2))
def ne0_49 : E := (.ic .eql (.ai 9 0 (.ci (.at 2 1) (.ci (.li 7) .n0))) (.li 0))
def ne0_50 : E := (.tf ne0_41 (.fb .quo (.i2f (.ib .sub .i64 (.ai 9 0 (.ci (.ib .quo .i64 (.at 2 1) (.li 11)) (.ci (.li 33) .n0))) (.li 16))) (.lf 4620693217682128896)) (.lf 0))
def ne0_51 : E := (.ti ne0_41 (.li 0) (.ai 9 0 (.ci ne0_42 (.ci (.li 4) .n0))))
def ne0_52 : E := (.ti ne0_41 (.li 0) (.ai 9 0 (.ci ne0_44 (.ci (.li 4) .n0))))
def ne0_53 : E := (.ti ne0_41 (.li 0) (.ai 9 0 (.ci ne0_42 (.ci (.li 5) .n0))))
def ne0_54 : E := (.ti ne0_41 (.li 0) (.ai 9 0 (.ci ne0_44 (.ci (.li 5) .n0))))
def ne0_55 : E := (.ib .sub .i64 (.ib .sub .i64 (.li 5) ne0_1) (.li 3))
def ne0_56 : E := (.ic .eql ne0_55 (.li 0))
def ne0_57 : E := (.ic .eql ne0_55 (.li 1))
def ne0_58 : E := (.ib .sub .i64 (.ib .sub .i64 (.li 5) ne0_8) (.li 3))
def ne0_59 : E := (.ic .eql ne0_58 (.li 0))
def ne0_60 : E := (.ic .eql ne0_58 (.li 1))
def ne0_61 : E := (.ib .sub .i64 (.ib .sub .i64 (.li 5) ne0_18) (.li 3))
def ne0_62 : E := (.ic .eql (.ai 9 0 (.ci (.at 2 2) (.ci (.li 11) .n0))) (.li 0))
def ne0_63 : E := (.ib .quo .i64 (.at 2 2) (.li 4))
def ne0_64 : E := (.ti ne0_62 (.li 0) (.ai 9 0 (.ci ne0_63 (.ci (.li 4) .n0))))
def ne0_65 : E := (.ib .quo .i64 (.at 2 2) (.li 40))
def ne0_66 : E := (.ti ne0_62 (.li 0) (.ai 9 0 (.ci ne0_65 (.ci (.li 4) .n0))))
def ne0_67 : E := (.ib .add .i64 (.li 2) (.ai 9 0 (.ci (.at 2 2) (.ci (.li 3) .n0))))
def ne0_68 : E := (.ic .eql ne0_67 (.li 3))
def ne0_69 : E := (.ic .eql ne0_67 (.li 2))
def ne0_70 : E := (.ic .eql (.ai 9 0 (.ci (.at 2 2) (.ci (.li 7) .n0))) (.li 0))
def ne0_71 : E := (.tf ne0_62 (.fb .quo (.i2f (.ib .sub .i64 (.ai 9 0 (.ci (.ib .quo .i64 (.at 2 2) (.li 11)) (.ci (.li 33) .n0))) (.li 16))) (.lf 4620693217682128896)) (.lf 0))
def ne0_72 : E := (.ti ne0_62 (.li 0) (.ai 9 0 (.ci ne0_63 (.ci (.li 5) .n0))))
def ne0_73 : E := (.ti ne0_62 (.li 0) (.ai 9 0 (.ci ne0_65 (.ci (.li 5) .n0))))
def ne0_74 : E := (.ti ne0_62 (.li 0) (.ai 9 0 (.ci ne0_63 (.ci (.li 6) .n0))))
def ne0_75 : E := (.ti ne0_62 (.li 0) (.ai 9 0 (.ci ne0_65 (.ci (.li 6) .n0))))
def ne0_76 : E := (.ib .sub .i64 (.ib .sub .i64 (.li 6) ne0_1) (.li 4))
def ne0_77 : E := (.ic .eql ne0_76 (.li 0))
def ne0_78 : E := (.ic .eql ne0_76 (.li 1))
def ne0_79 : E := (.ib .sub .i64 (.ib .sub .i64 (.li 6) ne0_8) (.li 4))
def ne0_80 : E := (.ic .eql ne0_79 (.li 0))
def ne0_81 : E := (.ic .eql ne0_79 (.li 1))
def ne0_82 : E := (.ib .sub .i64 (.ib .sub .i64 (.li 6) ne0_18) (.li 4))
def ne0_83 : E := (.ic .eql (.ai 9 0 (.ci (.at 2 3) (.ci (.li 11) .n0))) (.li 0))
def ne0_84 : E := (.ib .quo .i64 (.at 2 3) (.li 4))
def ne0_85 : E := (.ti ne0_83 (.li 0) (.ai 9 0 (.ci ne0_84 (.ci (.li 5) .n0))))
def ne0_86 : E := (.ib .quo .i64 (.at 2 3) (.li 40))
def ne0_87 : E := (.ti ne0_83 (.li 0) (.ai 9 0 (.ci ne0_86 (.ci (.li 5) .n0))))
def ne0_88 : E := (.ib .add .i64 (.li 2) (.ai 9 0 (.ci (.at 2 3) (.ci (.li 3) .n0))))
def ne0_89 : E := (.ic .eql ne0_88 (.li 3))
def ne0_90 : E := (.ic .eql ne0_88 (.li 2))
def ne0_91 : E := (.ic .eql (.ai 9 0 (.ci (.at 2 3) (.ci (.li 7) .n0))) (.li 0))
def ne0_92 : E := (.tf ne0_83 (.fb .quo (.i2f (.ib .sub .i64 (.ai 9 0 (.ci (.ib .quo .i64 (.at 2 3) (.li 11)) (.ci (.li 33) .n0))) (.li 16))) (.lf 4620693217682128896)) (.lf 0))
def ne0_93 : E := (.ti ne0_83 (.li 0) (.ai 9 0 (.ci ne0_84 (.ci (.li 6) .n0))))
def ne0_94 : E := (.ti ne0_83 (.li 0) (.ai 9 0 (.ci ne0_86 (.ci (.li 6) .n0))))
def ne0_95 : E := (.ti ne0_83 (.li 0) (.ai 9 0 (.ci ne0_84 (.ci (.li 7) .n0))))
def ne0_96 : E := (.ti ne0_83 (.li 0) (.ai 9 0 (.ci ne0_86 (.ci (.li 7) .n0))))
def ne0_97 : E := (.ib .sub .i64 (.ib .sub .i64 (.li 7) ne0_1) (.li 5))
def ne0_98 : E := (.ic .eql ne0_97 (.li 0))
def ne0_99 : E := (.ic .eql ne0_97 (.li 1))
def ne0_100 : E := (.ib .sub .i64 (.ib .sub .i64 (.li 7) ne0_8) (.li 5))
def ne0_101 : E := (.ic .eql ne0_100 (.li 0))
def ne0_102 : E := (.ic .eql ne0_100 (.li 1))
def ne0_103 : E := (.ib .sub .i64 (.ib .sub .i64 (.li 7) ne0_18) (.li 5))
def ne0_104 : E := (.ic .eql (.ai 9 0 (.ci (.at 2 4) (.ci (.li 11) .n0))) (.li 0))
def ne0_105 : E := (.ib .quo .i64 (.at 2 4) (.li 4))
def ne0_106 : E := (.ti ne0_104 (.li 0) (.ai 9 0 (.ci ne0_105 (.ci (.li 6) .n0))))
def ne0_107 : E := (.ib .quo .i64 (.at 2 4) (.li 40))
def ne0_108 : E := (.ti ne0_104 (.li 0) (.ai 9 0 (.ci ne0_107 (.ci (.li 6) .n0))))
def ne0_109 : E := (.ib .add .i64 (.li 2) (.ai 9 0 (.ci (.at 2 4) (.ci (.li 3) .n0))))
def ne0_110 : E := (.ic .eql ne0_109 (.li 3))
def ne0_111 : E := (.ic .eql ne0_109 (.li 2))
def ne0_112 : E := (.ic .eql (.ai 9 0 (.ci (.at 2 4) (.ci (.li 7) .n0))) (.li 0))
def ne0_113 : E := (.tf ne0_104 (.fb .quo (.i2f (.ib .sub .i64 (.ai 9 0 (.ci (.ib .quo .i64 (.at 2 4) (.li 11)) (.ci (.li 33) .n0))) (.li 16))) (.lf 4620693217682128896)) (.lf 0))
def ne0_114 : E := (.ti ne0_104 (.li 0) (.ai 9 0 (.ci ne0_105 (.ci (.li 7) .n0))))
def ne0_115 : E := (.ti ne0_104 (.li 0) (.ai 9 0 (.ci ne0_107 (.ci (.li 7) .n0))))
def ne0_116 : E := (.ti ne0_104 (.li 0) (.ai 9 0 (.ci ne0_105 (.ci (.li 8) .n0))))
def ne0_117 : E := (.ti ne0_104 (.li 0) (.ai 9 0 (.ci ne0_107 (.ci (.li 8) .n0))))
def ne0_118 : E := (.ib .sub .i64 (.ib .sub .i64 (.li 8) ne0_1) (.li 6))
def ne0_119 : E := (.ic .eql ne0_118 (.li 0))
def ne0_120 : E := (.ic .eql ne0_118 (.li 1))
def ne0_121 : E := (.ib .sub .i64 (.ib .sub .i64 (.li 8) ne0_8) (.li 6))
def ne0_122 : E := (.ic .eql ne0_121 (.li 0))
def ne0_123 : E := (.ic .eql ne0_121 (.li 1))
def ne0_124 : E := (.ib .sub .i64 (.ib .sub .i64 (.li 8) ne0_18) (.li 6))
def ne0_125 : E := (.ic .eql (.ai 9 0 (.ci (.at 2 5) (.ci (.li 11) .n0))) (.li 0))
def ne0_126 : E := (.ib .quo .i64 (.at 2 5) (.li 4))
def ne0_127 : E := (.ti ne0_125 (.li 0) (.ai 9 0 (.ci ne0_126 (.ci (.li 7) .n0))))
def ne0_128 : E := (.ib .quo .i64 (.at 2 5) (.li 40))
def ne0_129 : E := (.ti ne0_125 (.li 0) (.ai 9 0 (.ci ne0_128 (.ci (.li 7) .n0))))
def ne0_130 : E := (.ib .add .i64 (.li 2) (.ai 9 0 (.ci (.at 2 5) (.ci (.li 3) .n0))))
def ne0_131 : E := (.ic .eql ne0_130 (.li 3))
def ne0_132 : E := (.ic .eql ne0_130 (.li 2))
def ne0_133 : E := (.ic .eql (.ai 9 0 (.ci (.at 2 5) (.ci (.li 7) .n0))) (.li 0))
def ne0_134 : E := (.tf ne0_125 (.fb .quo (.i2f (.ib .sub .i64 (.ai 9 0 (.ci (.ib .quo .i64 (.at 2 5) (.li 11)) (.ci (.li 33) .n0))) (.li 16))) (.lf 4620693217682128896)) (.lf 0))
def ne0_135 : E := (.ti ne0_125 (.li 0) (.ai 9 0 (.ci ne0_126 (.ci (.li 8) .n0))))
def ne0_136 : E := (.ti ne0_125 (.li 0) (.ai 9 0 (.ci ne0_128 (.ci (.li 8) .n0))))
def ne0_137 : E := (.ti ne0_125 (.li 0) (.ai 9 0 (.ci ne0_126 (.ci (.li 9) .n0))))
def ne0_138 : E := (.ti ne0_125 (.li 0) (.ai 9 0 (.ci ne0_128 (.ci (.li 9) .n0))))
def ne0_139 : E := (.ib .sub .i64 (.ib .sub .i64 (.li 9) ne0_1) (.li 7))
def ne0_140 : E := (.ic .eql ne0_139 (.li 0))
def ne0_141 : E := (.ic .eql ne0_139 (.li 1))
def ne0_142 : E := (.ib .sub .i64 (.ib .sub .i64 (.li 9) ne0_8) (.li 7))
def ne0_143 : E := (.ic .eql ne0_142 (.li 0))
def ne0_144 : E := (.ic .eql ne0_142 (.li 1))
def ne0_145 : E := (.ib .sub .i64 (.ib .sub .i64 (.li 9) ne0_18) (.li 7))
def ne0_146 : E := (.ic .eql (.ai 9 0 (.ci (.at 2 6) (.ci (.li 11) .n0))) (.li 0))
def ne0_147 : E := (.ib .quo .i64 (.at 2 6) (.li 4))
def ne0_148 : E := (.ti ne0_146 (.li 0) (.ai 9 0 (.ci ne0_147 (.ci (.li 8) .n0))))
def ne0_149 : E := (.ib .quo .i64 (.at 2 6) (.li 40))
def ne0_150 : E := (.ti ne0_146 (.li 0) (.ai 9 0 (.ci ne0_149 (.ci (.li 8) .n0))))
def ne0_151 : E := (.ib .add .i64 (.li 2) (.ai 9 0 (.ci (.at 2 6) (.ci (.li 3) .n0))))
def ne0_152 : E := (.ic .eql ne0_151 (.li 3))
def ne0_153 : E := (.ic .eql ne0_151 (.li 2))
def ne0_154 : E := (.ic .eql (.ai 9 0 (.ci (.at 2 6) (.ci (.li 7) .n0))) (.li 0))
def ne0_155 : E := (.tf ne0_146 (.fb .quo (.i2f (.ib .sub .i64 (.ai 9 0 (.ci (.ib .quo .i64 (.at 2 6) (.li 11)) (.ci (.li 33) .n0))) (.li 16))) (.lf 4620693217682128896)) (.lf 0))
def ne0_156 : E := (.ti ne0_146 (.li 0) (.ai 9 0 (.ci ne0_147 (.ci (.li 9) .n0))))
def ne0_157 : E := (.ti ne0_146 (.li 0) (.ai 9 0 (.ci ne0_149 (.ci (.li 9) .n0))))
def ne0_158 : E := (.ti ne0_146 (.li 0) (.ai 9 0 (.ci ne0_147 (.ci (.li 10) .n0))))
def ne0_159 : E := (.ti ne0_146 (.li 0) (.ai 9 0 (.ci ne0_149 (.ci (.li 10) .n0))))
def ne0_160 : E := (.ib .sub .i64 (.ib .sub .i64 (.li 10) ne0_1) (.li 8))
def ne0_161 : E := (.ic .eql ne0_160 (.li 0))
def ne0_162 : E := (.ic .eql ne0_160 (.li 1))
def ne0_163 : E := (.ib .sub .i64 (.ib .sub .i64 (.li 10) ne0_8) (.li 8))
def ne0_164 : E := (.ic .eql ne0_163 (.li 0))
def ne0_165 : E := (.ic .eql ne0_163 (.li 1))
def ne0_166 : E := (.ib .sub .i64 (.ib .sub .i64 (.li 10) ne0_18) (.li 8))
def ne0_167 : E := (.ic .eql (.ai 9 0 (.ci (.at 2 7) (.ci (.li 11) .n0))) (.li 0))
def ne0_168 : E := (.ib .quo .i64 (.at 2 7) (.li 4))
def ne0_169 : E := (.ti ne0_167 (.li 0) (.ai 9 0 (.ci ne0_168 (.ci (.li 9) .n0))))
def ne0_170 : E := (.ib .quo .i64 (.at 2 7) (.li 40))
def ne0_171 : E := (.ti ne0_167 (.li 0) (.ai 9 0 (.ci ne0_170 (.ci (.li 9) .n0))))
def ne0_172 : E := (.ib .add .i64 (.li 2) (.ai 9 0 (.ci (.at 2 7) (.ci (.li 3) .n0))))
def ne0_173 : E := (.ic .eql ne0_172 (.li 3))
def ne0_174 : E := (.ic .eql ne0_172 (.li 2))
def ne0_175 : E := (.ic .eql (.ai 9 0 (.ci (.at 2 7) (.ci (.li 7) .n0))) (.li 0))
def ne0_176 : E := (.tf ne0_167 (.fb .quo (.i2f (.ib .sub .i64 (.ai 9 0 (.ci (.ib .quo .i64 (.at 2 7) (.li 11)) (.ci (.li 33) .n0))) (.li 16))) (.lf 4620693217682128896)) (.lf 0))
def ne0_177 : E := (.ti ne0_167 (.li 0) (.ai 9 0 (.ci ne0_168 (.ci (.li 10) .n0))))
def ne0_178 : E := (.ti ne0_167 (.li 0) (.ai 9 0 (.ci ne0_170 (.ci (.li 10) .n0))))
def ne0_179 : E := (.ti ne0_167 (.li 0) (.ai 9 0 (.ci ne0_168 (.ci (.li 11) .n0))))
def ne0_180 : E := (.ti ne0_167 (.li 0) (.ai 9 0 (.ci ne0_170 (.ci (.li 11) .n0))))
def ne0_181 : E := (.ib .sub .i64 (.ib .sub .i64 (.li 11) ne0_1) (.li 9))
def ne0_182 : E := (.ib .sub .i64 (.ib .sub .i64 (.li 11) ne0_8) (.li 9))
def ne0_183 : E := (.ib .sub .i64 (.ib .sub .i64 (.li 11) ne0_18) (.li 9))
def nN0 : Nms := [(362731446, 100, (.tf ne0_3 ne0_4 (.tf ne0_5 ne0_6 ne0_7))),
  (2962095690, 101, (.tf (.ic .eql ne0_9 (.li 0)) ne0_4 (.tf (.ic .eql ne0_9 (.li 1)) ne0_6 ne0_7))),
  (2867591044, 102, (.fb .mul ne0_10 (.vf 100))),
  (2867591045, 103, (.fb .mul ne0_10 (.vf 101))),
  (3040827088, 104, (.tf ne0_12 ne0_6 (.tf ne0_13 ne0_14 ne0_7))),
  (748864546, 105, (.tf ne0_16 ne0_6 (.tf ne0_17 ne0_14 ne0_7))),
  (2751869295, 106, (.tf (.ic .eql ne0_19 (.li 0)) ne0_6 (.tf (.ic .eql ne0_19 (.li 1)) ne0_14 ne0_7))),
  (2867591048, 107, (.fb .mul ne0_10 (.vf 104))),
  (2867591049, 108, (.fb .mul ne0_10 (.vf 105))),
  (2867591050, 109, (.fb .mul ne0_10 (.vf 106))),
  (3346043704, 110, (.fb .add ne0_22 ne0_24)),
  (2624664910, 111, (.fb .sub ne0_22 ne0_24)),
  (1903286116, 112, (.fb .mul ne0_22 ne0_24)),
  (1416972978, 113, (.tf ne0_26 (.vf 111) (.vf 112))),
  (2858730564, 114, (.tf ne0_27 (.vf 110) (.vf 113))),
  (1181907322, 115, (.fb .quo ne0_22 ne0_24)),
  (1911084014, 116, (.tf ne0_28 (.vf 115) (.vf 114))),
  (1493552807, 117, (.tf ne0_20 ne0_29 (.tf (.vb 7) (.vf 116) (.vf 114)))),
  (3808619061, 118, (.tf ne0_3 ne0_4 (.tf ne0_5 ne0_7 (.vf 117)))),
  (2867591062, 119, (.fb .mul ne0_10 (.vf 118))),
  (3650053717, 120, (.tf (.ic .eql ne0_30 (.li 0)) ne0_4 (.tf (.ic .eql ne0_30 (.li 1)) ne0_6 ne0_7))),
  (2737886099, 121, (.tf (.ic .eql ne0_31 (.li 0)) ne0_4 (.tf (.ic .eql ne0_31 (.li 1)) ne0_6 ne0_7))),
  (706907051, 122, (.tf ne0_26 (.fb .sub (.vf 120) (.vf 121)) (.fb .mul (.vf 120) (.vf 121)))),
  (4055025637, 123, (.tf ne0_27 (.fb .add (.vf 120) (.vf 121)) (.vf 122))),
  (4051591715, 124, (.tf ne0_28 (.fb .quo (.vf 120) (.vf 121)) (.vf 123))),
  (1501552840, 125, (.tf ne0_20 ne0_29 (.tf (.vb 7) (.vf 124) (.vf 123)))),
  (1780051675, 126, (.tf ne0_12 ne0_6 (.tf ne0_13 ne0_7 (.vf 125)))),
  (3783056424, 127, (.tf ne0_16 ne0_6 (.tf ne0_17 ne0_7 (.vf 125)))),
  (2867591070, 128, (.fb .mul ne0_10 (.vf 126))),
  (2867591071, 129, (.fb .mul ne0_10 (.vf 127))),
  (4110528131, 130, (.tf (.ic .eql ne0_32 (.li 0)) ne0_4 (.tf (.ic .eql ne0_32 (.li 1)) ne0_6 (.tf (.ic .eql ne0_32 (.li 2)) ne0_14 ne0_7)))),
  (2742276704, 131, (.tf (.ic .eql ne0_33 (.li 0)) ne0_4 (.tf (.ic .eql ne0_33 (.li 1)) ne0_6 (.tf (.ic .eql ne0_33 (.li 2)) ne0_14 ne0_7)))),
  (2103053763, 132, (.tf ne0_26 (.fb .sub (.vf 130) (.vf 131)) (.fb .mul (.vf 130) (.vf 131)))),
  (1146205028, 133, (.tf ne0_27 (.fb .add (.vf 130) (.vf 131)) (.vf 132))),
  (1142771106, 134, (.tf ne0_28 (.fb .quo (.vf 130) (.vf 131)) (.vf 133))),
  (1511552880, 135, (.tf ne0_20 ne0_29 (.tf (.vb 7) (.vf 134) (.vf 133)))),
  (2597057509, 136, (.tf ne0_35 ne0_14 (.tf ne0_36 ne0_7 (.vf 135)))),
  (305094967, 137, (.tf ne0_38 ne0_14 (.tf ne0_39 ne0_7 (.vf 135)))),
  (2308099716, 138, (.tf (.ic .eql ne0_40 (.li 0)) ne0_14 (.tf (.ic .eql ne0_40 (.li 1)) ne0_7 (.vf 135)))),
  (2867591080, 139, (.fb .mul ne0_10 (.vf 136))),
  (2867591081, 140, (.fb .mul ne0_10 (.vf 137))),
  (2867591082, 141, (.fb .mul ne0_10 (.vf 138))),
  (3487480674, 142, (.tf (.ic .eql ne0_43 (.li 0)) ne0_4 (.tf (.ic .eql ne0_43 (.li 1)) ne0_7 (.vf 117)))),
  (2575313056, 143, (.tf (.ic .eql ne0_45 (.li 0)) ne0_4 (.tf (.ic .eql ne0_45 (.li 1)) ne0_7 (.vf 117)))),
  (2710283962, 144, (.tf ne0_47 (.fb .sub (.vf 142) (.vf 143)) (.fb .mul (.vf 142) (.vf 143)))),
  (1741435191, 145, (.tf ne0_48 (.fb .add (.vf 142) (.vf 143)) (.vf 144))),
  (1738001269, 146, (.tf ne0_49 (.fb .quo (.vf 142) (.vf 143)) (.vf 145))),
  (832223757, 147, (.tf ne0_41 ne0_50 (.tf (.vb 7) (.vf 146) (.vf 145)))),
  (2678163647, 148, (.tf ne0_12 ne0_7 (.tf ne0_13 (.vf 117) (.vf 147)))),
  (2867591092, 149, (.fb .mul ne0_10 (.vf 148))),
  (4283897443, 150, (.tf ne0_41 ne0_50 (.tf ne0_20 ne0_29 ne0_7))),
  (1732029022, 151, (.tf (.ic .eql ne0_51 (.li 0)) ne0_4 (.tf (.ic .eql ne0_51 (.li 1)) ne0_6 (.tf (.ic .eql ne0_51 (.li 2)) ne0_7 (.vf 125))))),
  (363777595, 152, (.tf (.ic .eql ne0_52 (.li 0)) ne0_4 (.tf (.ic .eql ne0_52 (.li 1)) ne0_6 (.tf (.ic .eql ne0_52 (.li 2)) ne0_7 (.vf 125))))),
  (530842170, 153, (.tf ne0_47 (.fb .sub (.vf 151) (.vf 152)) (.fb .mul (.vf 151) (.vf 152)))),
  (3847960663, 154, (.tf ne0_48 (.fb .add (.vf 151) (.vf 152)) (.vf 153))),
  (3844526741, 155, (.tf ne0_49 (.fb .quo (.vf 151) (.vf 152)) (.vf 154))),
  (841223793, 156, (.tf ne0_41 ne0_50 (.tf (.vb 7) (.vf 155) (.vf 154)))),
  (3091473759, 157, (.tf ne0_35 ne0_7 (.tf ne0_36 (.vf 125) (.vf 156)))),
  (799511217, 158, (.tf ne0_38 ne0_7 (.tf ne0_39 (.vf 125) (.vf 156)))),
  (2867591101, 159, (.fb .mul ne0_10 (.vf 157))),
  (2867591102, 160, (.fb .mul ne0_10 (.vf 158))),
  (1544879773, 161, (.tf (.ic .eql ne0_53 (.li 0)) ne0_4 (.tf (.ic .eql ne0_53 (.li 1)) ne0_6 (.tf (.ic .eql ne0_53 (.li 2)) ne0_14 (.tf (.ic .eql ne0_53 (.li 3)) ne0_7 (.vf 135)))))),
  (4015511828, 162, (.tf (.ic .eql ne0_54 (.li 0)) ne0_4 (.tf (.ic .eql ne0_54 (.li 1)) ne0_6 (.tf (.ic .eql ne0_54 (.li 2)) ne0_14 (.tf (.ic .eql ne0_54 (.li 3)) ne0_7 (.vf 135)))))),
  (1926988882, 163, (.tf ne0_47 (.fb .sub (.vf 161) (.vf 162)) (.fb .mul (.vf 161) (.vf 162)))),
  (939140054, 164, (.tf ne0_48 (.fb .add (.vf 161) (.vf 162)) (.vf 163))),
  (935706132, 165, (.tf ne0_49 (.fb .quo (.vf 161) (.vf 162)) (.vf 164))),
  (851223833, 166, (.tf ne0_41 ne0_50 (.tf (.vb 7) (.vf 165) (.vf 164)))),
  (3506783878, 167, (.tf ne0_56 ne0_7 (.tf ne0_57 (.vf 135) (.vf 166)))),
  (1214821336, 168, (.tf ne0_59 ne0_7 (.tf ne0_60 (.vf 135) (.vf 166)))),
  (3217826085, 169, (.tf (.ic .eql ne0_61 (.li 0)) ne0_7 (.tf (.ic .eql ne0_61 (.li 1)) (.vf 135) (.vf 166)))),
  (2867591111, 170, (.fb .mul ne0_10 (.vf 167))),
  (2867591112, 171, (.fb .mul ne0_10 (.vf 168))),
  (2867591113, 172, (.fb .mul ne0_10 (.vf 169))),
  (1512417298, 173, (.tf (.ic .eql ne0_64 (.li 0)) ne0_4 (.tf (.ic .eql ne0_64 (.li 1)) ne0_7 (.tf (.ic .eql ne0_64 (.li 2)) (.vf 117) (.vf 147))))),
  (144165871, 174, (.tf (.ic .eql ne0_66 (.li 0)) ne0_4 (.tf (.ic .eql ne0_66 (.li 1)) ne0_7 (.tf (.ic .eql ne0_66 (.li 2)) (.vf 117) (.vf 147))))),
  (2534219081, 175, (.tf ne0_68 (.fb .sub (.vf 173) (.vf 174)) (.fb .mul (.vf 173) (.vf 174)))),
  (1534370217, 176, (.tf ne0_69 (.fb .add (.vf 173) (.vf 174)) (.vf 175))),
  (1530936295, 177, (.tf ne0_70 (.fb .quo (.vf 173) (.vf 174)) (.vf 176))),
  (171894710, 178, (.tf ne0_62 ne0_71 (.tf (.vb 7) (.vf 177) (.vf 176)))),
  (1723620795, 179, (.tf ne0_35 (.vf 117) (.tf ne0_36 (.vf 147) (.vf 178)))),
  (2867591123, 180, (.fb .mul ne0_10 (.vf 179))),
  (1684916366, 181, (.tf ne0_62 ne0_71 (.vf 150))),
  (3412309289, 182, (.tf (.ic .eql ne0_72 (.li 0)) ne0_4 (.tf (.ic .eql ne0_72 (.li 1)) ne0_6 (.tf (.ic .eql ne0_72 (.li 2)) ne0_7 (.tf (.ic .eql ne0_72 (.li 3)) (.vf 125) (.vf 156)))))),
  (1587974053, 183, (.tf (.ic .eql ne0_73 (.li 0)) ne0_4 (.tf (.ic .eql ne0_73 (.li 1)) ne0_6 (.tf (.ic .eql ne0_73 (.li 2)) ne0_7 (.tf (.ic .eql ne0_73 (.li 3)) (.vf 125) (.vf 156)))))),
  (354777289, 184, (.tf ne0_68 (.fb .sub (.vf 182) (.vf 183)) (.fb .mul (.vf 182) (.vf 183)))),
  (3640895689, 185, (.tf ne0_69 (.fb .add (.vf 182) (.vf 183)) (.vf 184))),
  (3637461767, 186, (.tf ne0_70 (.fb .quo (.vf 182) (.vf 183)) (.vf 185))),
  (180894746, 187, (.tf ne0_62 ne0_71 (.tf (.vb 7) (.vf 186) (.vf 185)))),
  (2145930934, 188, (.tf ne0_56 (.vf 125) (.tf ne0_57 (.vf 156) (.vf 187)))),
  (4148935683, 189, (.tf ne0_59 (.vf 125) (.tf ne0_60 (.vf 156) (.vf 187)))),
  (2867591132, 190, (.fb .mul ne0_10 (.vf 188))),
  (2867591133, 191, (.fb .mul ne0_10 (.vf 189))),
  (2587536397, 192, (.tf (.ic .eql ne0_74 (.li 0)) ne0_4 (.tf (.ic .eql ne0_74 (.li 1)) ne0_6 (.tf (.ic .eql ne0_74 (.li 2)) ne0_14 (.tf (.ic .eql ne0_74 (.li 3)) ne0_7 (.tf (.ic .eql ne0_74 (.li 4)) (.vf 135) (.vf 166))))))),
  (307117352, 193, (.tf (.ic .eql ne0_75 (.li 0)) ne0_4 (.tf (.ic .eql ne0_75 (.li 1)) ne0_6 (.tf (.ic .eql ne0_75 (.li 2)) ne0_14 (.tf (.ic .eql ne0_75 (.li 3)) ne0_7 (.tf (.ic .eql ne0_75 (.li 4)) (.vf 135) (.vf 166))))))),
  (1750924001, 194, (.tf ne0_68 (.fb .sub (.vf 192) (.vf 193)) (.fb .mul (.vf 192) (.vf 193)))),
  (732075080, 195, (.tf ne0_69 (.fb .add (.vf 192) (.vf 193)) (.vf 194))),
  (728641158, 196, (.tf ne0_70 (.fb .quo (.vf 192) (.vf 193)) (.vf 195))),
  (190894786, 197, (.tf ne0_62 ne0_71 (.tf (.vb 7) (.vf 196) (.vf 195)))),
  (2571241083, 198, (.tf ne0_77 (.vf 135) (.tf ne0_78 (.vf 166) (.vf 197)))),
  (279278541, 199, (.tf ne0_80 (.vf 135) (.tf ne0_81 (.vf 166) (.vf 197)))),
  (2282283290, 200, (.tf (.ic .eql ne0_82 (.li 0)) (.vf 135) (.tf (.ic .eql ne0_82 (.li 1)) (.vf 166) (.vf 197)))),
  (2867591142, 201, (.fb .mul ne0_10 (.vf 198))),
  (2867591143, 202, (.fb .mul ne0_10 (.vf 199))),
  (2867591144, 203, (.fb .mul ne0_10 (.vf 200))),
  (1410467302, 204, (.tf (.ic .eql ne0_85 (.li 0)) ne0_4 (.tf (.ic .eql ne0_85 (.li 1)) ne0_7 (.tf (.ic .eql ne0_85 (.li 2)) (.vf 117) (.tf (.ic .eql ne0_85 (.li 3)) (.vf 147) (.vf 178)))))),
  (3881099357, 205, (.tf (.ic .eql ne0_87 (.li 0)) ne0_4 (.tf (.ic .eql ne0_87 (.li 1)) ne0_7 (.tf (.ic .eql ne0_87 (.li 2)) (.vf 117) (.tf (.ic .eql ne0_87 (.li 3)) (.vf 147) (.vf 178)))))),
  (2358154200, 206, (.tf ne0_89 (.fb .sub (.vf 204) (.vf 205)) (.fb .mul (.vf 204) (.vf 205)))),
  (1327305243, 207, (.tf ne0_90 (.fb .add (.vf 204) (.vf 205)) (.vf 206))),
  (1323871321, 208, (.tf ne0_91 (.fb .quo (.vf 204) (.vf 205)) (.vf 207))),
  (3806532954, 209, (.tf ne0_83 ne0_92 (.tf (.vb 7) (.vf 208) (.vf 207)))),
  (2189931088, 210, (.tf ne0_56 (.vf 147) (.tf ne0_57 (.vf 178) (.vf 209)))),
  (2867591154, 211, (.fb .mul ne0_10 (.vf 210))),
  (993587226, 212, (.tf ne0_83 ne0_92 (.vf 181))),
  (2671735647, 213, (.tf (.ic .eql ne0_93 (.li 0)) ne0_4 (.tf (.ic .eql ne0_93 (.li 1)) ne0_6 (.tf (.ic .eql ne0_93 (.li 2)) ne0_7 (.tf (.ic .eql ne0_93 (.li 3)) (.vf 125) (.tf (.ic .eql ne0_93 (.li 4)) (.vf 156) (.vf 187))))))),
  (391316602, 214, (.tf (.ic .eql ne0_94 (.li 0)) ne0_4 (.tf (.ic .eql ne0_94 (.li 1)) ne0_6 (.tf (.ic .eql ne0_94 (.li 2)) ne0_7 (.tf (.ic .eql ne0_94 (.li 3)) (.vf 125) (.tf (.ic .eql ne0_94 (.li 4)) (.vf 156) (.vf 187))))))),
  (178712408, 215, (.tf ne0_89 (.fb .sub (.vf 213) (.vf 214)) (.fb .mul (.vf 213) (.vf 214)))),
  (3433830715, 216, (.tf ne0_90 (.fb .add (.vf 213) (.vf 214)) (.vf 215))),
  (3430396793, 217, (.tf ne0_91 (.fb .quo (.vf 213) (.vf 214)) (.vf 216))),
  (3815532990, 218, (.tf ne0_83 ne0_92 (.tf (.vb 7) (.vf 217) (.vf 216)))),
  (2613241230, 219, (.tf ne0_77 (.vf 156) (.tf ne0_78 (.vf 187) (.vf 218)))),
  (321278688, 220, (.tf ne0_80 (.vf 156) (.tf ne0_81 (.vf 187) (.vf 218)))),
  (2867591163, 221, (.fb .mul ne0_10 (.vf 219))),
  (2867591164, 222, (.fb .mul ne0_10 (.vf 220))),
  (1209339112, 223, (.tf (.ic .eql ne0_95 (.li 0)) ne0_4 (.tf (.ic .eql ne0_95 (.li 1)) ne0_6 (.tf (.ic .eql ne0_95 (.li 2)) ne0_14 (.tf (.ic .eql ne0_95 (.li 3)) ne0_7 (.tf (.ic .eql ne0_95 (.li 4)) (.vf 135) (.tf (.ic .eql ne0_95 (.li 5)) (.vf 166) (.vf 197)))))))),
  (2767803549, 224, (.tf (.ic .eql ne0_96 (.li 0)) ne0_4 (.tf (.ic .eql ne0_96 (.li 1)) ne0_6 (.tf (.ic .eql ne0_96 (.li 2)) ne0_14 (.tf (.ic .eql ne0_96 (.li 3)) ne0_7 (.tf (.ic .eql ne0_96 (.li 4)) (.vf 135) (.tf (.ic .eql ne0_96 (.li 5)) (.vf 166) (.vf 197)))))))),
  (1574859120, 225, (.tf ne0_89 (.fb .sub (.vf 223) (.vf 224)) (.fb .mul (.vf 223) (.vf 224)))),
  (525010106, 226, (.tf ne0_90 (.fb .add (.vf 223) (.vf 224)) (.vf 225))),
  (521576184, 227, (.tf ne0_91 (.fb .quo (.vf 223) (.vf 224)) (.vf 226))),
  (3825533030, 228, (.tf ne0_83 ne0_92 (.tf (.vb 7) (.vf 227) (.vf 226)))),
  (3038551379, 229, (.tf ne0_98 (.vf 166) (.tf ne0_99 (.vf 197) (.vf 228)))),
  (746588837, 230, (.tf ne0_101 (.vf 166) (.tf ne0_102 (.vf 197) (.vf 228)))),
  (2749593586, 231, (.tf (.ic .eql ne0_103 (.li 0)) (.vf 166) (.tf (.ic .eql ne0_103 (.li 1)) (.vf 197) (.vf 228)))),
  (2867591173, 232, (.fb .mul ne0_10 (.vf 229))),
  (2867591174, 233, (.fb .mul ne0_10 (.vf 230))),
  (2867591175, 234, (.fb .mul ne0_10 (.vf 231))),
  (3182630688, 235, (.tf (.ic .eql ne0_106 (.li 0)) ne0_4 (.tf (.ic .eql ne0_106 (.li 1)) ne0_7 (.tf (.ic .eql ne0_106 (.li 2)) (.vf 117) (.tf (.ic .eql ne0_106 (.li 3)) (.vf 147) (.tf (.ic .eql ne0_106 (.li 4)) (.vf 178) (.vf 209))))))),
  (902211643, 236, (.tf (.ic .eql ne0_108 (.li 0)) ne0_4 (.tf (.ic .eql ne0_108 (.li 1)) ne0_7 (.tf (.ic .eql ne0_108 (.li 2)) (.vf 117) (.tf (.ic .eql ne0_108 (.li 3)) (.vf 147) (.tf (.ic .eql ne0_108 (.li 4)) (.vf 178) (.vf 209))))))),
  (2182089319, 237, (.tf ne0_110 (.fb .sub (.vf 235) (.vf 236)) (.fb .mul (.vf 235) (.vf 236)))),
  (1120240269, 238, (.tf ne0_111 (.fb .add (.vf 235) (.vf 236)) (.vf 237))),
  (1116806347, 239, (.tf ne0_112 (.fb .quo (.vf 235) (.vf 236)) (.vf 238))),
  (3146203907, 240, (.tf ne0_104 ne0_113 (.tf (.vb 7) (.vf 239) (.vf 238)))),
  (2657241384, 241, (.tf ne0_77 (.vf 178) (.tf ne0_78 (.vf 209) (.vf 240)))),
  (2867591185, 242, (.fb .mul ne0_10 (.vf 241))),
  (302258086, 243, (.tf ne0_104 ne0_113 (.vf 212))),
  (3805275387, 244, (.tf (.ic .eql ne0_114 (.li 0)) ne0_4 (.tf (.ic .eql ne0_114 (.li 1)) ne0_6 (.tf (.ic .eql ne0_114 (.li 2)) ne0_7 (.tf (.ic .eql ne0_114 (.li 3)) (.vf 125) (.tf (.ic .eql ne0_114 (.li 4)) (.vf 156) (.tf (.ic .eql ne0_114 (.li 5)) (.vf 187) (.vf 218)))))))),
  (1068772533, 245, (.tf (.ic .eql ne0_115 (.li 0)) ne0_4 (.tf (.ic .eql ne0_115 (.li 1)) ne0_6 (.tf (.ic .eql ne0_115 (.li 2)) ne0_7 (.tf (.ic .eql ne0_115 (.li 3)) (.vf 125) (.tf (.ic .eql ne0_115 (.li 4)) (.vf 156) (.tf (.ic .eql ne0_115 (.li 5)) (.vf 187) (.vf 218)))))))),
  (2647527, 246, (.tf ne0_110 (.fb .sub (.vf 244) (.vf 245)) (.fb .mul (.vf 244) (.vf 245)))),
  (3226765741, 247, (.tf ne0_111 (.fb .add (.vf 244) (.vf 245)) (.vf 246))),
  (3223331819, 248, (.tf ne0_112 (.fb .quo (.vf 244) (.vf 245)) (.vf 247))),
  (3155203943, 249, (.tf ne0_104 ne0_113 (.tf (.vb 7) (.vf 248) (.vf 247)))),
  (3080551526, 250, (.tf ne0_98 (.vf 187) (.tf ne0_99 (.vf 218) (.vf 249)))),
  (788588984, 251, (.tf ne0_101 (.vf 187) (.tf ne0_102 (.vf 218) (.vf 249)))),
  (2867591194, 252, (.fb .mul ne0_10 (.vf 250))),
  (2867591195, 253, (.fb .mul ne0_10 (.vf 251))),
  (1705255209, 254, (.tf (.ic .eql ne0_116 (.li 0)) ne0_4 (.tf (.ic .eql ne0_116 (.li 1)) ne0_6 (.tf (.ic .eql ne0_116 (.li 2)) ne0_14 (.tf (.ic .eql ne0_116 (.li 3)) ne0_7 (.tf (.ic .eql ne0_116 (.li 4)) (.vf 135) (.tf (.ic .eql ne0_116 (.li 5)) (.vf 166) (.tf (.ic .eql ne0_116 (.li 6)) (.vf 197) (.vf 228))))))))),
  (2807635837, 255, (.tf (.ic .eql ne0_117 (.li 0)) ne0_4 (.tf (.ic .eql ne0_117 (.li 1)) ne0_6 (.tf (.ic .eql ne0_117 (.li 2)) ne0_14 (.tf (.ic .eql ne0_117 (.li 3)) ne0_7 (.tf (.ic .eql ne0_117 (.li 4)) (.vf 135) (.tf (.ic .eql ne0_117 (.li 5)) (.vf 166) (.tf (.ic .eql ne0_117 (.li 6)) (.vf 197) (.vf 228))))))))),
  (1398794239, 256, (.tf ne0_110 (.fb .sub (.vf 254) (.vf 255)) (.fb .mul (.vf 254) (.vf 255)))),
  (317945132, 257, (.tf ne0_111 (.fb .add (.vf 254) (.vf 255)) (.vf 256))),
  (314511210, 258, (.tf ne0_112 (.fb .quo (.vf 254) (.vf 255)) (.vf 257))),
  (3165203983, 259, (.tf ne0_104 ne0_113 (.tf (.vb 7) (.vf 258) (.vf 257)))),
  (3505861675, 260, (.tf ne0_119 (.vf 197) (.tf ne0_120 (.vf 228) (.vf 259)))),
  (1213899133, 261, (.tf ne0_122 (.vf 197) (.tf ne0_123 (.vf 228) (.vf 259)))),
  (3216903882, 262, (.tf (.ic .eql ne0_124 (.li 0)) (.vf 197) (.tf (.ic .eql ne0_124 (.li 1)) (.vf 228) (.vf 259)))),
  (2867591204, 263, (.fb .mul ne0_10 (.vf 260))),
  (2867591205, 264, (.fb .mul ne0_10 (.vf 261))),
  (2867591206, 265, (.fb .mul ne0_10 (.vf 262))),
  (2533940165, 266, (.tf (.ic .eql ne0_127 (.li 0)) ne0_4 (.tf (.ic .eql ne0_127 (.li 1)) ne0_7 (.tf (.ic .eql ne0_127 (.li 2)) (.vf 117) (.tf (.ic .eql ne0_127 (.li 3)) (.vf 147) (.tf (.ic .eql ne0_127 (.li 4)) (.vf 178) (.tf (.ic .eql ne0_127 (.li 5)) (.vf 209) (.vf 240)))))))),
  (4092404602, 267, (.tf (.ic .eql ne0_129 (.li 0)) ne0_4 (.tf (.ic .eql ne0_129 (.li 1)) ne0_7 (.tf (.ic .eql ne0_129 (.li 2)) (.vf 117) (.tf (.ic .eql ne0_129 (.li 3)) (.vf 147) (.tf (.ic .eql ne0_129 (.li 4)) (.vf 178) (.tf (.ic .eql ne0_129 (.li 5)) (.vf 209) (.vf 240)))))))),
  (2006024438, 268, (.tf ne0_131 (.fb .sub (.vf 266) (.vf 267)) (.fb .mul (.vf 266) (.vf 267)))),
  (913175295, 269, (.tf ne0_132 (.fb .add (.vf 266) (.vf 267)) (.vf 268))),
  (909741373, 270, (.tf ne0_133 (.fb .quo (.vf 266) (.vf 267)) (.vf 269))),
  (2485874860, 271, (.tf ne0_125 ne0_134 (.tf (.vb 7) (.vf 270) (.vf 269)))),
  (3124551680, 272, (.tf ne0_98 (.vf 209) (.tf ne0_99 (.vf 240) (.vf 271)))),
  (2867591216, 273, (.fb .mul ne0_10 (.vf 272))),
  (3905896237, 274, (.tf ne0_125 ne0_134 (.vf 243))),
  (2517961218, 275, (.tf (.ic .eql ne0_135 (.li 0)) ne0_4 (.tf (.ic .eql ne0_135 (.li 1)) ne0_6 (.tf (.ic .eql ne0_135 (.li 2)) ne0_7 (.tf (.ic .eql ne0_135 (.li 3)) (.vf 125) (.tf (.ic .eql ne0_135 (.li 4)) (.vf 156) (.tf (.ic .eql ne0_135 (.li 5)) (.vf 187) (.tf (.ic .eql ne0_135 (.li 6)) (.vf 218) (.vf 249))))))))),
  (3620341846, 276, (.tf (.ic .eql ne0_136 (.li 0)) ne0_4 (.tf (.ic .eql ne0_136 (.li 1)) ne0_6 (.tf (.ic .eql ne0_136 (.li 2)) ne0_7 (.tf (.ic .eql ne0_136 (.li 3)) (.vf 125) (.tf (.ic .eql ne0_136 (.li 4)) (.vf 156) (.tf (.ic .eql ne0_136 (.li 5)) (.vf 187) (.tf (.ic .eql ne0_136 (.li 6)) (.vf 218) (.vf 249))))))))),
  (4121549937, 277, (.tf ne0_131 (.fb .sub (.vf 275) (.vf 276)) (.fb .mul (.vf 275) (.vf 276)))),
  (3019700767, 278, (.tf ne0_132 (.fb .add (.vf 275) (.vf 276)) (.vf 277))),
  (3016266845, 279, (.tf ne0_133 (.fb .quo (.vf 275) (.vf 276)) (.vf 278))),
  (2494874896, 280, (.tf ne0_125 ne0_134 (.tf (.vb 7) (.vf 279) (.vf 278)))),
  (3547861822, 281, (.tf ne0_119 (.vf 218) (.tf ne0_120 (.vf 249) (.vf 280)))),
  (1255899280, 282, (.tf ne0_122 (.vf 218) (.tf ne0_123 (.vf 249) (.vf 280)))),
  (2867591225, 283, (.fb .mul ne0_10 (.vf 281))),
  (2867591226, 284, (.fb .mul ne0_10 (.vf 282))),
  (4075284688, 285, (.tf (.ic .eql ne0_137 (.li 0)) ne0_4 (.tf (.ic .eql ne0_137 (.li 1)) ne0_6 (.tf (.ic .eql ne0_137 (.li 2)) ne0_14 (.tf (.ic .eql ne0_137 (.li 3)) ne0_7 (.tf (.ic .eql ne0_137 (.li 4)) (.vf 135) (.tf (.ic .eql ne0_137 (.li 5)) (.vf 166) (.tf (.ic .eql ne0_137 (.li 6)) (.vf 197) (.tf (.ic .eql ne0_137 (.li 7)) (.vf 228) (.vf 259)))))))))),
  (426614216, 286, (.tf (.ic .eql ne0_138 (.li 0)) ne0_4 (.tf (.ic .eql ne0_138 (.li 1)) ne0_6 (.tf (.ic .eql ne0_138 (.li 2)) ne0_14 (.tf (.ic .eql ne0_138 (.li 3)) ne0_7 (.tf (.ic .eql ne0_138 (.li 4)) (.vf 135) (.tf (.ic .eql ne0_138 (.li 5)) (.vf 166) (.tf (.ic .eql ne0_138 (.li 6)) (.vf 197) (.tf (.ic .eql ne0_138 (.li 7)) (.vf 228) (.vf 259)))))))))),
  (1222729358, 287, (.tf ne0_131 (.fb .sub (.vf 285) (.vf 286)) (.fb .mul (.vf 285) (.vf 286)))),
  (110880158, 288, (.tf ne0_132 (.fb .add (.vf 285) (.vf 286)) (.vf 287))),
  (107446236, 289, (.tf ne0_133 (.fb .quo (.vf 285) (.vf 286)) (.vf 288))),
  (2504874936, 290, (.tf ne0_125 ne0_134 (.tf (.vb 7) (.vf 289) (.vf 288)))),
  (3973171971, 291, (.tf ne0_140 (.vf 228) (.tf ne0_141 (.vf 259) (.vf 290)))),
  (1681209429, 292, (.tf ne0_143 (.vf 228) (.tf ne0_144 (.vf 259) (.vf 290)))),
  (3684214178, 293, (.tf (.ic .eql ne0_145 (.li 0)) (.vf 228) (.tf (.ic .eql ne0_145 (.li 1)) (.vf 259) (.vf 290)))),
  (2867591235, 294, (.fb .mul ne0_10 (.vf 291))),
  (2867591236, 295, (.fb .mul ne0_10 (.vf 292))),
  (2867591237, 296, (.fb .mul ne0_10 (.vf 293))),
  (3759363024, 297, (.tf (.ic .eql ne0_148 (.li 0)) ne0_4 (.tf (.ic .eql ne0_148 (.li 1)) ne0_7 (.tf (.ic .eql ne0_148 (.li 2)) (.vf 117) (.tf (.ic .eql ne0_148 (.li 3)) (.vf 147) (.tf (.ic .eql ne0_148 (.li 4)) (.vf 178) (.tf (.ic .eql ne0_148 (.li 5)) (.vf 209) (.tf (.ic .eql ne0_148 (.li 6)) (.vf 240) (.vf 271))))))))),
  (566776361, 298, (.tf (.ic .eql ne0_150 (.li 0)) ne0_4 (.tf (.ic .eql ne0_150 (.li 1)) ne0_7 (.tf (.ic .eql ne0_150 (.li 2)) (.vf 117) (.tf (.ic .eql ne0_150 (.li 3)) (.vf 147) (.tf (.ic .eql ne0_150 (.li 4)) (.vf 178) (.tf (.ic .eql ne0_150 (.li 5)) (.vf 209) (.tf (.ic .eql ne0_150 (.li 6)) (.vf 240) (.vf 271))))))))),
  (1829959557, 299, (.tf ne0_152 (.fb .sub (.vf 297) (.vf 298)) (.fb .mul (.vf 297) (.vf 298)))),
  (706110321, 300, (.tf ne0_153 (.fb .add (.vf 297) (.vf 298)) (.vf 299))),
  (702676399, 301, (.tf ne0_154 (.fb .quo (.vf 297) (.vf 298)) (.vf 300))),
  (1825545813, 302, (.tf ne0_146 ne0_155 (.tf (.vb 7) (.vf 301) (.vf 300)))),
  (3591861976, 303, (.tf ne0_119 (.vf 240) (.tf ne0_120 (.vf 271) (.vf 302)))),
  (2867591247, 304, (.fb .mul ne0_10 (.vf 303))),
  (3214567097, 305, (.tf ne0_146 ne0_155 (.vf 274))),
  (3104760431, 306, (.tf (.ic .eql ne0_156 (.li 0)) ne0_4 (.tf (.ic .eql ne0_156 (.li 1)) ne0_6 (.tf (.ic .eql ne0_156 (.li 2)) ne0_7 (.tf (.ic .eql ne0_156 (.li 3)) (.vf 125) (.tf (.ic .eql ne0_156 (.li 4)) (.vf 156) (.tf (.ic .eql ne0_156 (.li 5)) (.vf 187) (.tf (.ic .eql ne0_156 (.li 6)) (.vf 218) (.tf (.ic .eql ne0_156 (.li 7)) (.vf 249) (.vf 280)))))))))),
  (3751057250, 307, (.tf (.ic .eql ne0_157 (.li 0)) ne0_4 (.tf (.ic .eql ne0_157 (.li 1)) ne0_6 (.tf (.ic .eql ne0_157 (.li 2)) ne0_7 (.tf (.ic .eql ne0_157 (.li 3)) (.vf 125) (.tf (.ic .eql ne0_157 (.li 4)) (.vf 156) (.tf (.ic .eql ne0_157 (.li 5)) (.vf 187) (.tf (.ic .eql ne0_157 (.li 6)) (.vf 218) (.tf (.ic .eql ne0_157 (.li 7)) (.vf 249) (.vf 280)))))))))),
  (3945485056, 308, (.tf ne0_152 (.fb .sub (.vf 306) (.vf 307)) (.fb .mul (.vf 306) (.vf 307)))),
  (2812635793, 309, (.tf ne0_153 (.fb .add (.vf 306) (.vf 307)) (.vf 308))),
  (2809201871, 310, (.tf ne0_154 (.fb .quo (.vf 306) (.vf 307)) (.vf 309))),
  (1834545849, 311, (.tf ne0_146 ne0_155 (.tf (.vb 7) (.vf 310) (.vf 309)))),
  (4015172118, 312, (.tf ne0_140 (.vf 249) (.tf ne0_141 (.vf 280) (.vf 311)))),
  (1723209576, 313, (.tf ne0_143 (.vf 249) (.tf ne0_144 (.vf 280) (.vf 311)))),
  (2867591256, 314, (.fb .mul ne0_10 (.vf 312))),
  (2867591257, 315, (.fb .mul ne0_10 (.vf 313))),
  (4024460258, 316, (.tf (.ic .eql ne0_158 (.li 0)) ne0_4 (.tf (.ic .eql ne0_158 (.li 1)) ne0_6 (.tf (.ic .eql ne0_158 (.li 2)) ne0_14 (.tf (.ic .eql ne0_158 (.li 3)) ne0_7 (.tf (.ic .eql ne0_158 (.li 4)) (.vf 135) (.tf (.ic .eql ne0_158 (.li 5)) (.vf 166) (.tf (.ic .eql ne0_158 (.li 6)) (.vf 197) (.tf (.ic .eql ne0_158 (.li 7)) (.vf 228) (.tf (.ic .eql ne0_158 (.li 8)) (.vf 259) (.vf 290))))))))))),
  (4214673268, 317, (.tf (.ic .eql ne0_159 (.li 0)) ne0_4 (.tf (.ic .eql ne0_159 (.li 1)) ne0_6 (.tf (.ic .eql ne0_159 (.li 2)) ne0_14 (.tf (.ic .eql ne0_159 (.li 3)) ne0_7 (.tf (.ic .eql ne0_159 (.li 4)) (.vf 135) (.tf (.ic .eql ne0_159 (.li 5)) (.vf 166) (.tf (.ic .eql ne0_159 (.li 6)) (.vf 197) (.tf (.ic .eql ne0_159 (.li 7)) (.vf 228) (.tf (.ic .eql ne0_159 (.li 8)) (.vf 259) (.vf 290))))))))))),
  (1046664477, 318, (.tf ne0_152 (.fb .sub (.vf 316) (.vf 317)) (.fb .mul (.vf 316) (.vf 317)))),
  (4198782475, 319, (.tf ne0_153 (.fb .add (.vf 316) (.vf 317)) (.vf 318))),
  (4195348553, 320, (.tf ne0_154 (.fb .quo (.vf 316) (.vf 317)) (.vf 319))),
  (1844545889, 321, (.tf ne0_146 ne0_155 (.tf (.vb 7) (.vf 320) (.vf 319)))),
  (145514976, 322, (.tf ne0_161 (.vf 259) (.tf ne0_162 (.vf 290) (.vf 321)))),
  (2148519725, 323, (.tf ne0_164 (.vf 259) (.tf ne0_165 (.vf 290) (.vf 321)))),
  (4151524474, 324, (.tf (.ic .eql ne0_166 (.li 0)) (.vf 259) (.tf (.ic .eql ne0_166 (.li 1)) (.vf 290) (.vf 321)))),
  (2867591266, 325, (.fb .mul ne0_10 (.vf 322))),
  (2867591267, 326, (.fb .mul ne0_10 (.vf 323))),
  (2867591268, 327, (.fb .mul ne0_10 (.vf 324))),
  (2563931974, 328, (.tf (.ic .eql ne0_169 (.li 0)) ne0_4 (.tf (.ic .eql ne0_169 (.li 1)) ne0_7 (.tf (.ic .eql ne0_169 (.li 2)) (.vf 117) (.tf (.ic .eql ne0_169 (.li 3)) (.vf 147) (.tf (.ic .eql ne0_169 (.li 4)) (.vf 178) (.tf (.ic .eql ne0_169 (.li 5)) (.vf 209) (.tf (.ic .eql ne0_169 (.li 6)) (.vf 240) (.tf (.ic .eql ne0_169 (.li 7)) (.vf 271) (.vf 302)))))))))),
  (3210228793, 329, (.tf (.ic .eql ne0_171 (.li 0)) ne0_4 (.tf (.ic .eql ne0_171 (.li 1)) ne0_7 (.tf (.ic .eql ne0_171 (.li 2)) (.vf 117) (.tf (.ic .eql ne0_171 (.li 3)) (.vf 147) (.tf (.ic .eql ne0_171 (.li 4)) (.vf 178) (.tf (.ic .eql ne0_171 (.li 5)) (.vf 209) (.tf (.ic .eql ne0_171 (.li 6)) (.vf 240) (.tf (.ic .eql ne0_171 (.li 7)) (.vf 271) (.vf 302)))))))))),
  (1653894676, 330, (.tf ne0_173 (.fb .sub (.vf 328) (.vf 329)) (.fb .mul (.vf 328) (.vf 329)))),
  (499045347, 331, (.tf ne0_174 (.fb .add (.vf 328) (.vf 329)) (.vf 330))),
  (495611425, 332, (.tf ne0_175 (.fb .quo (.vf 328) (.vf 329)) (.vf 331))),
  (1165216766, 333, (.tf ne0_167 ne0_176 (.tf (.vb 7) (.vf 332) (.vf 331)))),
  (4059172272, 334, (.tf ne0_140 (.vf 271) (.tf ne0_141 (.vf 302) (.vf 333)))),
  (2867591278, 335, (.fb .mul ne0_10 (.vf 334))),
  (2523237957, 336, (.tf ne0_167 ne0_176 (.vf 305))),
  (1270705735, 337, (.tf (.ic .eql ne0_177 (.li 0)) ne0_4 (.tf (.ic .eql ne0_177 (.li 1)) ne0_6 (.tf (.ic .eql ne0_177 (.li 2)) ne0_7 (.tf (.ic .eql ne0_177 (.li 3)) (.vf 125) (.tf (.ic .eql ne0_177 (.li 4)) (.vf 156) (.tf (.ic .eql ne0_177 (.li 5)) (.vf 187) (.tf (.ic .eql ne0_177 (.li 6)) (.vf 218) (.tf (.ic .eql ne0_177 (.li 7)) (.vf 249) (.tf (.ic .eql ne0_177 (.li 8)) (.vf 280) (.vf 311))))))))))),
  (1460918745, 338, (.tf (.ic .eql ne0_178 (.li 0)) ne0_4 (.tf (.ic .eql ne0_178 (.li 1)) ne0_6 (.tf (.ic .eql ne0_178 (.li 2)) ne0_7 (.tf (.ic .eql ne0_178 (.li 3)) (.vf 125) (.tf (.ic .eql ne0_178 (.li 4)) (.vf 156) (.tf (.ic .eql ne0_178 (.li 5)) (.vf 187) (.tf (.ic .eql ne0_178 (.li 6)) (.vf 218) (.tf (.ic .eql ne0_178 (.li 7)) (.vf 249) (.tf (.ic .eql ne0_178 (.li 8)) (.vf 280) (.vf 311))))))))))),
  (3769420175, 339, (.tf ne0_173 (.fb .sub (.vf 337) (.vf 338)) (.fb .mul (.vf 337) (.vf 338)))),
  (2605570819, 340, (.tf ne0_174 (.fb .add (.vf 337) (.vf 338)) (.vf 339))),
  (2602136897, 341, (.tf ne0_175 (.fb .quo (.vf 337) (.vf 338)) (.vf 340))),
  (1174216802, 342, (.tf ne0_167 ne0_176 (.tf (.vb 7) (.vf 341) (.vf 340)))),
  (187515123, 343, (.tf ne0_161 (.vf 280) (.tf ne0_162 (.vf 311) (.vf 342)))),
  (2190519872, 344, (.tf ne0_164 (.vf 280) (.tf ne0_165 (.vf 311) (.vf 342)))),
  (2867591287, 345, (.fb .mul ne0_10 (.vf 343))),
  (2867591288, 346, (.fb .mul ne0_10 (.vf 344))),
  (1552781919, 347, (.tf (.ic .eql ne0_179 (.li 0)) ne0_4 (.tf (.ic .eql ne0_179 (.li 1)) ne0_6 (.tf (.ic .eql ne0_179 (.li 2)) ne0_14 (.tf (.ic .eql ne0_179 (.li 3)) ne0_7 (.tf (.ic .eql ne0_179 (.li 4)) (.vf 135) (.tf (.ic .eql ne0_179 (.li 5)) (.vf 166) (.tf (.ic .eql ne0_179 (.li 6)) (.vf 197) (.tf (.ic .eql ne0_179 (.li 7)) (.vf 228) (.tf (.ic .eql ne0_179 (.li 8)) (.vf 259) (.tf (.ic .eql ne0_179 (.li 9)) (.vf 290) (.vf 321)))))))))))),
  (1286911120, 348, (.tf (.ic .eql ne0_180 (.li 0)) ne0_4 (.tf (.ic .eql ne0_180 (.li 1)) ne0_6 (.tf (.ic .eql ne0_180 (.li 2)) ne0_14 (.tf (.ic .eql ne0_180 (.li 3)) ne0_7 (.tf (.ic .eql ne0_180 (.li 4)) (.vf 135) (.tf (.ic .eql ne0_180 (.li 5)) (.vf 166) (.tf (.ic .eql ne0_180 (.li 6)) (.vf 197) (.tf (.ic .eql ne0_180 (.li 7)) (.vf 228) (.tf (.ic .eql ne0_180 (.li 8)) (.vf 259) (.tf (.ic .eql ne0_180 (.li 9)) (.vf 290) (.vf 321)))))))))))),
  (870599596, 349, (.tf ne0_173 (.fb .sub (.vf 347) (.vf 348)) (.fb .mul (.vf 347) (.vf 348)))),
  (3991717501, 350, (.tf ne0_174 (.fb .add (.vf 347) (.vf 348)) (.vf 349))),
  (3988283579, 351, (.tf ne0_175 (.fb .quo (.vf 347) (.vf 348)) (.vf 350))),
  (1184216842, 352, (.tf ne0_167 ne0_176 (.tf (.vb 7) (.vf 351) (.vf 350)))),
  (612825272, 353, (.tf (.ic .eql ne0_181 (.li 0)) (.vf 290) (.tf (.ic .eql ne0_181 (.li 1)) (.vf 321) (.vf 352)))),
  (2615830021, 354, (.tf (.ic .eql ne0_182 (.li 0)) (.vf 290) (.tf (.ic .eql ne0_182 (.li 1)) (.vf 321) (.vf 352)))),
  (323867479, 355, (.tf (.ic .eql ne0_183 (.li 0)) (.vf 290) (.tf (.ic .eql ne0_183 (.li 1)) (.vf 321) (.vf 352)))),
  (2867591297, 356, (.fb .mul ne0_10 (.vf 353))),
  (2867591298, 357, (.fb .mul ne0_10 (.vf 354))),
  (2867591299, 358, (.fb .mul ne0_10 (.vf 355)))]
set_option maxRecDepth 1000000 in
set_option maxHeartbeats 100000000 in
theorem nG0 : tabGood 100 nN0 = true := by kernel_rfl
end Go.Proofs.Ytkncchofgehnpaa
