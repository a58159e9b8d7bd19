/-
  'TapeEvals': what names stand for, where the first rest is 2.
-/
import Derived.Test.YticbgaflhiokgaaM3t
namespace Go.Proofs.Yticbgaflhiokgaa
open Go.RowKit Ex
def tapeEvalsE2_0 : E := (.ic .eql (.ai 9 0 (.ci (.at 1 0) (.ci (.li 11) .n0))) (.li 0))
def tapeEvalsE2_1 : E := (.ti tapeEvalsE2_0 (.li 0) (.ai 9 0 (.ci (.ib .quo .i64 (.at 1 0) (.li 4)) (.ci (.li 4) .n0))))
def tapeEvalsE2_2 : E := (.ic .eql tapeEvalsE2_1 (.li 0))
def tapeEvalsE2_3 : E := (.fb .quo (.i2f (.ib .sub .i64 (.ai 9 0 (.ci (.ti (.ic .lss (.li 0) (.vl 3)) (.at 3 0) (.li 0)) (.ci (.li 65) .n0))) (.li 32))) (.lf 4620693217682128896))
def tapeEvalsE2_4 : E := (.ic .eql tapeEvalsE2_1 (.li 1))
def tapeEvalsE2_5 : E := (.fb .quo (.i2f (.ib .sub .i64 (.ai 9 0 (.ci (.ti (.ic .lss (.li 1) (.vl 3)) (.at 3 1) (.li 1)) (.ci (.li 65) .n0))) (.li 32))) (.lf 4620693217682128896))
def tapeEvalsE2_6 : E := (.ic .eql tapeEvalsE2_1 (.li 2))
def tapeEvalsE2_7 : E := (.fb .quo (.i2f (.ib .sub .i64 (.ai 9 0 (.ci (.ti (.ic .lss (.li 2) (.vl 3)) (.at 3 2) (.li 2)) (.ci (.li 65) .n0))) (.li 32))) (.lf 4620693217682128896))
def tapeEvalsE2_8 : E := (.fb .quo (.i2f (.ib .sub .i64 (.ai 9 0 (.ci (.vi 0) (.ci (.li 17) .n0))) (.li 8))) (.lf 4616189618054758400))
def tapeEvalsE2_9 : E := (.ti tapeEvalsE2_0 (.li 0) (.ai 9 0 (.ci (.ib .quo .i64 (.at 1 0) (.li 40)) (.ci (.li 4) .n0))))
def tapeEvalsE2_10 : E := (.ic .eql tapeEvalsE2_9 (.li 0))
def tapeEvalsE2_11 : E := (.ic .eql tapeEvalsE2_9 (.li 1))
def tapeEvalsE2_12 : E := (.ic .eql tapeEvalsE2_9 (.li 2))
def tapeEvalsE2_13 : E := (.ib .add .i64 (.li 2) (.ai 9 0 (.ci (.at 1 0) (.ci (.li 3) .n0))))
def tapeEvalsE2_14 : E := (.ic .eql tapeEvalsE2_13 (.li 3))
def tapeEvalsE2_15 : E := (.ic .eql tapeEvalsE2_13 (.li 2))
def tapeEvalsE2_16 : E := (.ic .eql (.ai 9 0 (.ci (.at 1 0) (.ci (.li 7) .n0))) (.li 0))
def tapeEvalsE2_17 : E := (.tf tapeEvalsE2_0 (.fb .quo (.i2f (.ib .sub .i64 (.ai 9 0 (.ci (.ib .quo .i64 (.at 1 0) (.li 11)) (.ci (.li 33) .n0))) (.li 16))) (.lf 4620693217682128896)) (.lf 0))
def tapeEvalsE2_18 : E := (.ic .eql (.ai 9 0 (.ci (.at 1 1) (.ci (.li 11) .n0))) (.li 0))
def tapeEvalsE2_19 : E := (.ti tapeEvalsE2_18 (.li 0) (.ai 9 0 (.ci (.ib .quo .i64 (.at 1 1) (.li 4)) (.ci (.li 5) .n0))))
def tapeEvalsE2_20 : E := (.ic .eql tapeEvalsE2_19 (.li 0))
def tapeEvalsE2_21 : E := (.ic .eql tapeEvalsE2_19 (.li 1))
def tapeEvalsE2_22 : E := (.ic .eql tapeEvalsE2_19 (.li 2))
def tapeEvalsE2_23 : E := (.ic .eql tapeEvalsE2_19 (.li 3))
def tapeEvalsE2_24 : E := (.ti tapeEvalsE2_18 (.li 0) (.ai 9 0 (.ci (.ib .quo .i64 (.at 1 1) (.li 40)) (.ci (.li 5) .n0))))
def tapeEvalsE2_25 : E := (.ic .eql tapeEvalsE2_24 (.li 0))
def tapeEvalsE2_26 : E := (.ic .eql tapeEvalsE2_24 (.li 1))
def tapeEvalsE2_27 : E := (.ic .eql tapeEvalsE2_24 (.li 2))
def tapeEvalsE2_28 : E := (.ic .eql tapeEvalsE2_24 (.li 3))
def tapeEvalsE2_29 : E := (.ib .add .i64 (.li 2) (.ai 9 0 (.ci (.at 1 1) (.ci (.li 3) .n0))))
def tapeEvalsE2_30 : E := (.ic .eql tapeEvalsE2_29 (.li 3))
def tapeEvalsE2_31 : E := (.ic .eql tapeEvalsE2_29 (.li 2))
def tapeEvalsE2_32 : E := (.ic .eql (.ai 9 0 (.ci (.at 1 1) (.ci (.li 7) .n0))) (.li 0))
def tapeEvalsE2_33 : E := (.tf tapeEvalsE2_18 (.fb .quo (.i2f (.ib .sub .i64 (.ai 9 0 (.ci (.ib .quo .i64 (.at 1 1) (.li 11)) (.ci (.li 33) .n0))) (.li 16))) (.lf 4620693217682128896)) (.lf 0))
def tapeEvalsE2_34 : E := (.ic .eql (.ai 9 0 (.ci (.at 1 2) (.ci (.li 11) .n0))) (.li 0))
def tapeEvalsE2_35 : E := (.ti tapeEvalsE2_34 (.li 0) (.ai 9 0 (.ci (.ib .quo .i64 (.at 1 2) (.li 4)) (.ci (.li 6) .n0))))
def tapeEvalsE2_36 : E := (.ic .eql tapeEvalsE2_35 (.li 0))
def tapeEvalsE2_37 : E := (.ic .eql tapeEvalsE2_35 (.li 1))
def tapeEvalsE2_38 : E := (.ic .eql tapeEvalsE2_35 (.li 2))
def tapeEvalsE2_39 : E := (.ic .eql tapeEvalsE2_35 (.li 3))
def tapeEvalsE2_40 : E := (.ic .eql tapeEvalsE2_35 (.li 4))
def tapeEvalsE2_41 : E := (.ti tapeEvalsE2_34 (.li 0) (.ai 9 0 (.ci (.ib .quo .i64 (.at 1 2) (.li 40)) (.ci (.li 6) .n0))))
def tapeEvalsE2_42 : E := (.ic .eql tapeEvalsE2_41 (.li 0))
def tapeEvalsE2_43 : E := (.ic .eql tapeEvalsE2_41 (.li 1))
def tapeEvalsE2_44 : E := (.ic .eql tapeEvalsE2_41 (.li 2))
def tapeEvalsE2_45 : E := (.ic .eql tapeEvalsE2_41 (.li 3))
def tapeEvalsE2_46 : E := (.ic .eql tapeEvalsE2_41 (.li 4))
def tapeEvalsE2_47 : E := (.ib .add .i64 (.li 2) (.ai 9 0 (.ci (.at 1 2) (.ci (.li 3) .n0))))
def tapeEvalsE2_48 : E := (.ic .eql tapeEvalsE2_47 (.li 3))
def tapeEvalsE2_49 : E := (.ic .eql tapeEvalsE2_47 (.li 2))
def tapeEvalsE2_50 : E := (.ic .eql (.ai 9 0 (.ci (.at 1 2) (.ci (.li 7) .n0))) (.li 0))
def tapeEvalsE2_51 : E := (.tf tapeEvalsE2_34 (.fb .quo (.i2f (.ib .sub .i64 (.ai 9 0 (.ci (.ib .quo .i64 (.at 1 2) (.li 11)) (.ci (.li 33) .n0))) (.li 16))) (.lf 4620693217682128896)) (.lf 0))
def tapeEvalsE2_52 : E := (.ic .eql (.ai 9 0 (.ci (.at 1 3) (.ci (.li 11) .n0))) (.li 0))
def tapeEvalsE2_53 : E := (.ti tapeEvalsE2_52 (.li 0) (.ai 9 0 (.ci (.ib .quo .i64 (.at 1 3) (.li 4)) (.ci (.li 7) .n0))))
def tapeEvalsE2_54 : E := (.ic .eql tapeEvalsE2_53 (.li 0))
def tapeEvalsE2_55 : E := (.ic .eql tapeEvalsE2_53 (.li 1))
def tapeEvalsE2_56 : E := (.ic .eql tapeEvalsE2_53 (.li 2))
def tapeEvalsE2_57 : E := (.ic .eql tapeEvalsE2_53 (.li 3))
def tapeEvalsE2_58 : E := (.ic .eql tapeEvalsE2_53 (.li 4))
def tapeEvalsE2_59 : E := (.ic .eql tapeEvalsE2_53 (.li 5))
def tapeEvalsE2_60 : E := (.ti tapeEvalsE2_52 (.li 0) (.ai 9 0 (.ci (.ib .quo .i64 (.at 1 3) (.li 40)) (.ci (.li 7) .n0))))
def tapeEvalsE2_61 : E := (.ic .eql tapeEvalsE2_60 (.li 0))
def tapeEvalsE2_62 : E := (.ic .eql tapeEvalsE2_60 (.li 1))
def tapeEvalsE2_63 : E := (.ic .eql tapeEvalsE2_60 (.li 2))
def tapeEvalsE2_64 : E := (.ic .eql tapeEvalsE2_60 (.li 3))
def tapeEvalsE2_65 : E := (.ic .eql tapeEvalsE2_60 (.li 4))
def tapeEvalsE2_66 : E := (.ic .eql tapeEvalsE2_60 (.li 5))
def tapeEvalsE2_67 : E := (.ib .add .i64 (.li 2) (.ai 9 0 (.ci (.at 1 3) (.ci (.li 3) .n0))))
def tapeEvalsE2_68 : E := (.ic .eql tapeEvalsE2_67 (.li 3))
def tapeEvalsE2_69 : E := (.ic .eql tapeEvalsE2_67 (.li 2))
def tapeEvalsE2_70 : E := (.ic .eql (.ai 9 0 (.ci (.at 1 3) (.ci (.li 7) .n0))) (.li 0))
def tapeEvalsE2_71 : E := (.tf tapeEvalsE2_52 (.fb .quo (.i2f (.ib .sub .i64 (.ai 9 0 (.ci (.ib .quo .i64 (.at 1 3) (.li 11)) (.ci (.li 33) .n0))) (.li 16))) (.lf 4620693217682128896)) (.lf 0))
def tapeEvalsE2_72 : E := (.ic .eql (.ai 9 0 (.ci (.at 1 4) (.ci (.li 11) .n0))) (.li 0))
def tapeEvalsE2_73 : E := (.ti tapeEvalsE2_72 (.li 0) (.ai 9 0 (.ci (.ib .quo .i64 (.at 1 4) (.li 4)) (.ci (.li 8) .n0))))
def tapeEvalsE2_74 : E := (.ic .eql tapeEvalsE2_73 (.li 0))
def tapeEvalsE2_75 : E := (.ic .eql tapeEvalsE2_73 (.li 1))
def tapeEvalsE2_76 : E := (.ic .eql tapeEvalsE2_73 (.li 2))
def tapeEvalsE2_77 : E := (.ic .eql tapeEvalsE2_73 (.li 3))
def tapeEvalsE2_78 : E := (.ic .eql tapeEvalsE2_73 (.li 4))
def tapeEvalsE2_79 : E := (.ic .eql tapeEvalsE2_73 (.li 5))
def tapeEvalsE2_80 : E := (.ic .eql tapeEvalsE2_73 (.li 6))
def tapeEvalsE2_81 : E := (.ti tapeEvalsE2_72 (.li 0) (.ai 9 0 (.ci (.ib .quo .i64 (.at 1 4) (.li 40)) (.ci (.li 8) .n0))))
def tapeEvalsE2_82 : E := (.ic .eql tapeEvalsE2_81 (.li 0))
def tapeEvalsE2_83 : E := (.ic .eql tapeEvalsE2_81 (.li 1))
def tapeEvalsE2_84 : E := (.ic .eql tapeEvalsE2_81 (.li 2))
def tapeEvalsE2_85 : E := (.ic .eql tapeEvalsE2_81 (.li 3))
def tapeEvalsE2_86 : E := (.ic .eql tapeEvalsE2_81 (.li 4))
def tapeEvalsE2_87 : E := (.ic .eql tapeEvalsE2_81 (.li 5))
def tapeEvalsE2_88 : E := (.ic .eql tapeEvalsE2_81 (.li 6))
def tapeEvalsE2_89 : E := (.ib .add .i64 (.li 2) (.ai 9 0 (.ci (.at 1 4) (.ci (.li 3) .n0))))
def tapeEvalsE2_90 : E := (.ic .eql tapeEvalsE2_89 (.li 3))
def tapeEvalsE2_91 : E := (.ic .eql tapeEvalsE2_89 (.li 2))
def tapeEvalsE2_92 : E := (.ic .eql (.ai 9 0 (.ci (.at 1 4) (.ci (.li 7) .n0))) (.li 0))
def tapeEvalsE2_93 : E := (.tf tapeEvalsE2_72 (.fb .quo (.i2f (.ib .sub .i64 (.ai 9 0 (.ci (.ib .quo .i64 (.at 1 4) (.li 11)) (.ci (.li 33) .n0))) (.li 16))) (.lf 4620693217682128896)) (.lf 0))
def tapeEvalsE2_94 : E := (.ic .eql (.ai 9 0 (.ci (.at 1 5) (.ci (.li 11) .n0))) (.li 0))
def tapeEvalsE2_95 : E := (.ti tapeEvalsE2_94 (.li 0) (.ai 9 0 (.ci (.ib .quo .i64 (.at 1 5) (.li 4)) (.ci (.li 9) .n0))))
def tapeEvalsE2_96 : E := (.ic .eql tapeEvalsE2_95 (.li 0))
def tapeEvalsE2_97 : E := (.ic .eql tapeEvalsE2_95 (.li 1))
def tapeEvalsE2_98 : E := (.ic .eql tapeEvalsE2_95 (.li 2))
def tapeEvalsE2_99 : E := (.ic .eql tapeEvalsE2_95 (.li 3))
def tapeEvalsE2_100 : E := (.ic .eql tapeEvalsE2_95 (.li 4))
def tapeEvalsE2_101 : E := (.ic .eql tapeEvalsE2_95 (.li 5))
def tapeEvalsE2_102 : E := (.ic .eql tapeEvalsE2_95 (.li 6))
def tapeEvalsE2_103 : E := (.ic .eql tapeEvalsE2_95 (.li 7))
def tapeEvalsE2_104 : E := (.ti tapeEvalsE2_94 (.li 0) (.ai 9 0 (.ci (.ib .quo .i64 (.at 1 5) (.li 40)) (.ci (.li 9) .n0))))
def tapeEvalsE2_105 : E := (.ic .eql tapeEvalsE2_104 (.li 0))
def tapeEvalsE2_106 : E := (.ic .eql tapeEvalsE2_104 (.li 1))
def tapeEvalsE2_107 : E := (.ic .eql tapeEvalsE2_104 (.li 2))
def tapeEvalsE2_108 : E := (.ic .eql tapeEvalsE2_104 (.li 3))
def tapeEvalsE2_109 : E := (.ic .eql tapeEvalsE2_104 (.li 4))
def tapeEvalsE2_110 : E := (.ic .eql tapeEvalsE2_104 (.li 5))
def tapeEvalsE2_111 : E := (.ic .eql tapeEvalsE2_104 (.li 6))
def tapeEvalsE2_112 : E := (.ic .eql tapeEvalsE2_104 (.li 7))
def tapeEvalsE2_113 : E := (.ib .add .i64 (.li 2) (.ai 9 0 (.ci (.at 1 5) (.ci (.li 3) .n0))))
def tapeEvalsE2_114 : E := (.ic .eql tapeEvalsE2_113 (.li 3))
def tapeEvalsE2_115 : E := (.ic .eql tapeEvalsE2_113 (.li 2))
def tapeEvalsE2_116 : E := (.ic .eql (.ai 9 0 (.ci (.at 1 5) (.ci (.li 7) .n0))) (.li 0))
def tapeEvalsE2_117 : E := (.tf tapeEvalsE2_94 (.fb .quo (.i2f (.ib .sub .i64 (.ai 9 0 (.ci (.ib .quo .i64 (.at 1 5) (.li 11)) (.ci (.li 33) .n0))) (.li 16))) (.lf 4620693217682128896)) (.lf 0))
def tapeEvalsE2_118 : E := (.ic .eql (.ai 9 0 (.ci (.at 1 6) (.ci (.li 11) .n0))) (.li 0))
def tapeEvalsE2_119 : E := (.ti tapeEvalsE2_118 (.li 0) (.ai 9 0 (.ci (.ib .quo .i64 (.at 1 6) (.li 4)) (.ci (.li 10) .n0))))
def tapeEvalsE2_120 : E := (.ic .eql tapeEvalsE2_119 (.li 0))
def tapeEvalsE2_121 : E := (.ic .eql tapeEvalsE2_119 (.li 1))
def tapeEvalsE2_122 : E := (.ic .eql tapeEvalsE2_119 (.li 2))
def tapeEvalsE2_123 : E := (.ic .eql tapeEvalsE2_119 (.li 3))
def tapeEvalsE2_124 : E := (.ic .eql tapeEvalsE2_119 (.li 4))
def tapeEvalsE2_125 : E := (.ic .eql tapeEvalsE2_119 (.li 5))
def tapeEvalsE2_126 : E := (.ic .eql tapeEvalsE2_119 (.li 6))
def tapeEvalsE2_127 : E := (.ic .eql tapeEvalsE2_119 (.li 7))
def tapeEvalsE2_128 : E := (.ic .eql tapeEvalsE2_119 (.li 8))
def tapeEvalsE2_129 : E := (.ti tapeEvalsE2_118 (.li 0) (.ai 9 0 (.ci (.ib .quo .i64 (.at 1 6) (.li 40)) (.ci (.li 10) .n0))))
def tapeEvalsE2_130 : E := (.ic .eql tapeEvalsE2_129 (.li 0))
def tapeEvalsE2_131 : E := (.ic .eql tapeEvalsE2_129 (.li 1))
def tapeEvalsE2_132 : E := (.ic .eql tapeEvalsE2_129 (.li 2))
def tapeEvalsE2_133 : E := (.ic .eql tapeEvalsE2_129 (.li 3))
def tapeEvalsE2_134 : E := (.ic .eql tapeEvalsE2_129 (.li 4))
def tapeEvalsE2_135 : E := (.ic .eql tapeEvalsE2_129 (.li 5))
def tapeEvalsE2_136 : E := (.ic .eql tapeEvalsE2_129 (.li 6))
def tapeEvalsE2_137 : E := (.ic .eql tapeEvalsE2_129 (.li 7))
def tapeEvalsE2_138 : E := (.ic .eql tapeEvalsE2_129 (.li 8))
def tapeEvalsE2_139 : E := (.ib .add .i64 (.li 2) (.ai 9 0 (.ci (.at 1 6) (.ci (.li 3) .n0))))
def tapeEvalsE2_140 : E := (.ic .eql tapeEvalsE2_139 (.li 3))
def tapeEvalsE2_141 : E := (.ic .eql tapeEvalsE2_139 (.li 2))
def tapeEvalsE2_142 : E := (.ic .eql (.ai 9 0 (.ci (.at 1 6) (.ci (.li 7) .n0))) (.li 0))
def tapeEvalsE2_143 : E := (.tf tapeEvalsE2_118 (.fb .quo (.i2f (.ib .sub .i64 (.ai 9 0 (.ci (.ib .quo .i64 (.at 1 6) (.li 11)) (.ci (.li 33) .n0))) (.li 16))) (.lf 4620693217682128896)) (.lf 0))
def tapeEvalsE2_144 : E := (.ic .eql (.ai 9 0 (.ci (.at 1 7) (.ci (.li 11) .n0))) (.li 0))
def tapeEvalsE2_145 : E := (.ti tapeEvalsE2_144 (.li 0) (.ai 9 0 (.ci (.ib .quo .i64 (.at 1 7) (.li 4)) (.ci (.li 11) .n0))))
def tapeEvalsE2_146 : E := (.ic .eql tapeEvalsE2_145 (.li 0))
def tapeEvalsE2_147 : E := (.ic .eql tapeEvalsE2_145 (.li 1))
def tapeEvalsE2_148 : E := (.ic .eql tapeEvalsE2_145 (.li 2))
def tapeEvalsE2_149 : E := (.ic .eql tapeEvalsE2_145 (.li 3))
def tapeEvalsE2_150 : E := (.ic .eql tapeEvalsE2_145 (.li 4))
def tapeEvalsE2_151 : E := (.ic .eql tapeEvalsE2_145 (.li 5))
def tapeEvalsE2_152 : E := (.ic .eql tapeEvalsE2_145 (.li 6))
def tapeEvalsE2_153 : E := (.ic .eql tapeEvalsE2_145 (.li 7))
def tapeEvalsE2_154 : E := (.ic .eql tapeEvalsE2_145 (.li 8))
def tapeEvalsE2_155 : E := (.ic .eql tapeEvalsE2_145 (.li 9))
def tapeEvalsE2_156 : E := (.ti tapeEvalsE2_144 (.li 0) (.ai 9 0 (.ci (.ib .quo .i64 (.at 1 7) (.li 40)) (.ci (.li 11) .n0))))
def tapeEvalsE2_157 : E := (.ic .eql tapeEvalsE2_156 (.li 0))
def tapeEvalsE2_158 : E := (.ic .eql tapeEvalsE2_156 (.li 1))
def tapeEvalsE2_159 : E := (.ic .eql tapeEvalsE2_156 (.li 2))
def tapeEvalsE2_160 : E := (.ic .eql tapeEvalsE2_156 (.li 3))
def tapeEvalsE2_161 : E := (.ic .eql tapeEvalsE2_156 (.li 4))
def tapeEvalsE2_162 : E := (.ic .eql tapeEvalsE2_156 (.li 5))
def tapeEvalsE2_163 : E := (.ic .eql tapeEvalsE2_156 (.li 6))
def tapeEvalsE2_164 : E := (.ic .eql tapeEvalsE2_156 (.li 7))
def tapeEvalsE2_165 : E := (.ic .eql tapeEvalsE2_156 (.li 8))
def tapeEvalsE2_166 : E := (.ic .eql tapeEvalsE2_156 (.li 9))
def tapeEvalsE2_167 : E := (.ib .add .i64 (.li 2) (.ai 9 0 (.ci (.at 1 7) (.ci (.li 3) .n0))))
def tapeEvalsE2_168 : E := (.ic .eql tapeEvalsE2_167 (.li 3))
def tapeEvalsE2_169 : E := (.ic .eql tapeEvalsE2_167 (.li 2))
def tapeEvalsE2_170 : E := (.ic .eql (.ai 9 0 (.ci (.at 1 7) (.ci (.li 7) .n0))) (.li 0))
def tapeEvalsE2_171 : E := (.tf tapeEvalsE2_144 (.fb .quo (.i2f (.ib .sub .i64 (.ai 9 0 (.ci (.ib .quo .i64 (.at 1 7) (.li 11)) (.ci (.li 33) .n0))) (.li 16))) (.lf 4620693217682128896)) (.lf 0))
def tapeEvalsE2_172 : E := (.ib .quo .i64 (.vi 0) (.li 3))
def tapeEvalsE2_173 : E := (.ai 9 0 (.ci (.ib .add .i64 tapeEvalsE2_172 (.li 0)) (.ci (.li 3) .n0)))
def tapeEvalsE2_174 : E := (.ib .sub .i64 (.ib .sub .i64 (.li 11) tapeEvalsE2_173) (.li 9))
def tapeEvalsE2_175 : E := (.ic .eql tapeEvalsE2_174 (.li 0))
def tapeEvalsE2_176 : E := (.ic .eql tapeEvalsE2_174 (.li 1))
def tapeEvalsE2_177 : E := (.ai 9 0 (.ci (.ib .add .i64 tapeEvalsE2_172 (.li 1)) (.ci (.li 3) .n0)))
def tapeEvalsE2_178 : E := (.ib .sub .i64 (.ib .sub .i64 (.li 11) tapeEvalsE2_177) (.li 9))
def tapeEvalsE2_179 : E := (.ic .eql tapeEvalsE2_178 (.li 0))
def tapeEvalsE2_180 : E := (.ic .eql tapeEvalsE2_178 (.li 1))
def tapeEvalsE2_181 : E := (.ai 9 0 (.ci (.ib .add .i64 tapeEvalsE2_172 (.li 2)) (.ci (.li 3) .n0)))
def tapeEvalsE2_182 : E := (.ib .sub .i64 (.ib .sub .i64 (.li 11) tapeEvalsE2_181) (.li 9))
def tapeEvalsE2_183 : E := (.ic .eql tapeEvalsE2_182 (.li 0))
def tapeEvalsE2_184 : E := (.ic .eql tapeEvalsE2_182 (.li 1))
def tapeEvalsE2_185 : E := (.ic .lss (.li 0) (.vl 4))
def tapeEvalsE2_186 : E := (.ic .lss (.li 1) (.vl 4))
def tapeEvalsE2_187 : E := (.ic .lss (.li 2) (.vl 4))
def tapeEvalsE2_188 : E := (.ib .sub .i64 (.ib .sub .i64 (.li 10) tapeEvalsE2_173) (.li 8))
def tapeEvalsE2_189 : E := (.ic .eql tapeEvalsE2_188 (.li 0))
def tapeEvalsE2_190 : E := (.ic .eql tapeEvalsE2_188 (.li 1))
def tapeEvalsE2_191 : E := (.ib .sub .i64 (.ib .sub .i64 (.li 10) tapeEvalsE2_177) (.li 8))
def tapeEvalsE2_192 : E := (.ic .eql tapeEvalsE2_191 (.li 0))
def tapeEvalsE2_193 : E := (.ic .eql tapeEvalsE2_191 (.li 1))
def tapeEvalsE2_194 : E := (.ib .sub .i64 (.ib .sub .i64 (.li 10) tapeEvalsE2_181) (.li 8))
def tapeEvalsE2_195 : E := (.ic .eql tapeEvalsE2_194 (.li 0))
def tapeEvalsE2_196 : E := (.ic .eql tapeEvalsE2_194 (.li 1))
def tapeEvalsE2_197 : E := (.ib .sub .i64 (.ib .sub .i64 (.li 9) tapeEvalsE2_173) (.li 7))
def tapeEvalsE2_198 : E := (.ic .eql tapeEvalsE2_197 (.li 0))
def tapeEvalsE2_199 : E := (.ic .eql tapeEvalsE2_197 (.li 1))
def tapeEvalsE2_200 : E := (.ib .sub .i64 (.ib .sub .i64 (.li 9) tapeEvalsE2_177) (.li 7))
def tapeEvalsE2_201 : E := (.ic .eql tapeEvalsE2_200 (.li 0))
def tapeEvalsE2_202 : E := (.ic .eql tapeEvalsE2_200 (.li 1))
def tapeEvalsE2_203 : E := (.ib .sub .i64 (.ib .sub .i64 (.li 9) tapeEvalsE2_181) (.li 7))
def tapeEvalsE2_204 : E := (.ic .eql tapeEvalsE2_203 (.li 0))
def tapeEvalsE2_205 : E := (.ic .eql tapeEvalsE2_203 (.li 1))
def tapeEvalsE2_206 : E := (.ib .sub .i64 (.ib .sub .i64 (.li 8) tapeEvalsE2_173) (.li 6))
def tapeEvalsE2_207 : E := (.ic .eql tapeEvalsE2_206 (.li 0))
def tapeEvalsE2_208 : E := (.ic .eql tapeEvalsE2_206 (.li 1))
def tapeEvalsE2_209 : E := (.ib .sub .i64 (.ib .sub .i64 (.li 8) tapeEvalsE2_177) (.li 6))
def tapeEvalsE2_210 : E := (.ic .eql tapeEvalsE2_209 (.li 0))
def tapeEvalsE2_211 : E := (.ic .eql tapeEvalsE2_209 (.li 1))
def tapeEvalsE2_212 : E := (.ib .sub .i64 (.ib .sub .i64 (.li 8) tapeEvalsE2_181) (.li 6))
def tapeEvalsE2_213 : E := (.ic .eql tapeEvalsE2_212 (.li 0))
def tapeEvalsE2_214 : E := (.ic .eql tapeEvalsE2_212 (.li 1))
def tapeEvalsE2_215 : E := (.ib .sub .i64 (.ib .sub .i64 (.li 7) tapeEvalsE2_173) (.li 5))
def tapeEvalsE2_216 : E := (.ic .eql tapeEvalsE2_215 (.li 0))
def tapeEvalsE2_217 : E := (.ic .eql tapeEvalsE2_215 (.li 1))
def tapeEvalsE2_218 : E := (.ib .sub .i64 (.ib .sub .i64 (.li 7) tapeEvalsE2_177) (.li 5))
def tapeEvalsE2_219 : E := (.ic .eql tapeEvalsE2_218 (.li 0))
def tapeEvalsE2_220 : E := (.ic .eql tapeEvalsE2_218 (.li 1))
def tapeEvalsE2_221 : E := (.ib .sub .i64 (.ib .sub .i64 (.li 7) tapeEvalsE2_181) (.li 5))
def tapeEvalsE2_222 : E := (.ic .eql tapeEvalsE2_221 (.li 0))
def tapeEvalsE2_223 : E := (.ic .eql tapeEvalsE2_221 (.li 1))
def tapeEvalsE2_224 : E := (.ib .sub .i64 (.ib .sub .i64 (.li 6) tapeEvalsE2_173) (.li 4))
def tapeEvalsE2_225 : E := (.ic .eql tapeEvalsE2_224 (.li 0))
def tapeEvalsE2_226 : E := (.ic .eql tapeEvalsE2_224 (.li 1))
def tapeEvalsE2_227 : E := (.ib .sub .i64 (.ib .sub .i64 (.li 6) tapeEvalsE2_177) (.li 4))
def tapeEvalsE2_228 : E := (.ic .eql tapeEvalsE2_227 (.li 0))
def tapeEvalsE2_229 : E := (.ic .eql tapeEvalsE2_227 (.li 1))
def tapeEvalsE2_230 : E := (.ib .sub .i64 (.ib .sub .i64 (.li 6) tapeEvalsE2_181) (.li 4))
def tapeEvalsE2_231 : E := (.ic .eql tapeEvalsE2_230 (.li 0))
def tapeEvalsE2_232 : E := (.ic .eql tapeEvalsE2_230 (.li 1))
def tapeEvalsE2_233 : E := (.ib .sub .i64 (.ib .sub .i64 (.li 5) tapeEvalsE2_173) (.li 3))
def tapeEvalsE2_234 : E := (.ic .eql tapeEvalsE2_233 (.li 0))
def tapeEvalsE2_235 : E := (.ic .eql tapeEvalsE2_233 (.li 1))
def tapeEvalsE2_236 : E := (.ib .sub .i64 (.ib .sub .i64 (.li 5) tapeEvalsE2_177) (.li 3))
def tapeEvalsE2_237 : E := (.ic .eql tapeEvalsE2_236 (.li 0))
def tapeEvalsE2_238 : E := (.ic .eql tapeEvalsE2_236 (.li 1))
def tapeEvalsE2_239 : E := (.ib .sub .i64 (.ib .sub .i64 (.li 5) tapeEvalsE2_181) (.li 3))
def tapeEvalsE2_240 : E := (.ic .eql tapeEvalsE2_239 (.li 0))
def tapeEvalsE2_241 : E := (.ic .eql tapeEvalsE2_239 (.li 1))
def tapeEvalsE2_242 : E := (.ib .sub .i64 (.ib .sub .i64 (.li 4) tapeEvalsE2_173) (.li 2))
def tapeEvalsE2_243 : E := (.ic .eql tapeEvalsE2_242 (.li 0))
def tapeEvalsE2_244 : E := (.ic .eql tapeEvalsE2_242 (.li 1))
def tapeEvalsE2_245 : E := (.ib .sub .i64 (.ib .sub .i64 (.li 4) tapeEvalsE2_177) (.li 2))
def tapeEvalsE2_246 : E := (.ic .eql tapeEvalsE2_245 (.li 0))
def tapeEvalsE2_247 : E := (.ic .eql tapeEvalsE2_245 (.li 1))
def tapeEvalsE2_248 : E := (.ib .sub .i64 (.ib .sub .i64 (.li 4) tapeEvalsE2_181) (.li 2))
def tapeEvalsE2_249 : E := (.ic .eql tapeEvalsE2_248 (.li 0))
def tapeEvalsE2_250 : E := (.ic .eql tapeEvalsE2_248 (.li 1))
def tapeEvalsE2_251 : E := (.ib .sub .i64 (.ib .sub .i64 (.li 3) tapeEvalsE2_173) (.li 1))
def tapeEvalsE2_252 : E := (.ic .eql tapeEvalsE2_251 (.li 0))
def tapeEvalsE2_253 : E := (.ic .eql tapeEvalsE2_251 (.li 1))
def tapeEvalsE2_254 : E := (.ib .sub .i64 (.ib .sub .i64 (.li 3) tapeEvalsE2_177) (.li 1))
def tapeEvalsE2_255 : E := (.ic .eql tapeEvalsE2_254 (.li 0))
def tapeEvalsE2_256 : E := (.ic .eql tapeEvalsE2_254 (.li 1))
def tapeEvalsE2_257 : E := (.ib .sub .i64 (.ib .sub .i64 (.li 3) tapeEvalsE2_181) (.li 1))
def tapeEvalsE2_258 : E := (.ic .eql tapeEvalsE2_257 (.li 0))
def tapeEvalsE2_259 : E := (.ic .eql tapeEvalsE2_257 (.li 1))
def tapeEvalsNms2 : Nms := [(3457082686, 100, (.tf tapeEvalsE2_2 tapeEvalsE2_3 (.tf tapeEvalsE2_4 tapeEvalsE2_5 (.tf tapeEvalsE2_6 tapeEvalsE2_7 tapeEvalsE2_8)))),
  (2088831259, 101, (.tf tapeEvalsE2_10 tapeEvalsE2_3 (.tf tapeEvalsE2_11 tapeEvalsE2_5 (.tf tapeEvalsE2_12 tapeEvalsE2_7 tapeEvalsE2_8)))),
  (635087908, 102, (.tf tapeEvalsE2_14 (.fb .sub (.vf 100) (.vf 101)) (.fb .mul (.vf 100) (.vf 101)))),
  (4003206554, 103, (.tf tapeEvalsE2_15 (.fb .add (.vf 100) (.vf 101)) (.vf 102))),
  (3999772632, 104, (.tf tapeEvalsE2_16 (.fb .quo (.vf 100) (.vf 101)) (.vf 103))),
  (1218405719, 105, (.tf tapeEvalsE2_0 tapeEvalsE2_17 (.tf (.vb 2) (.vf 104) (.vf 103)))),
  (3576773631, 106, (.tf tapeEvalsE2_20 tapeEvalsE2_3 (.tf tapeEvalsE2_21 tapeEvalsE2_5 (.tf tapeEvalsE2_22 tapeEvalsE2_7 (.tf tapeEvalsE2_23 tapeEvalsE2_8 (.vf 105)))))),
  (1752438395, 107, (.tf tapeEvalsE2_25 tapeEvalsE2_3 (.tf tapeEvalsE2_26 tapeEvalsE2_5 (.tf tapeEvalsE2_27 tapeEvalsE2_7 (.tf tapeEvalsE2_28 tapeEvalsE2_8 (.vf 105)))))),
  (1263623538, 108, (.tf tapeEvalsE2_30 (.fb .sub (.vf 106) (.vf 107)) (.fb .mul (.vf 106) (.vf 107)))),
  (330774875, 109, (.tf tapeEvalsE2_31 (.fb .add (.vf 106) (.vf 107)) (.vf 108))),
  (327340953, 110, (.tf tapeEvalsE2_32 (.fb .quo (.vf 106) (.vf 107)) (.vf 109))),
  (533076572, 111, (.tf tapeEvalsE2_18 tapeEvalsE2_33 (.tf (.vb 2) (.vf 110) (.vf 109)))),
  (1881583265, 112, (.tf tapeEvalsE2_36 tapeEvalsE2_3 (.tf tapeEvalsE2_37 tapeEvalsE2_5 (.tf tapeEvalsE2_38 tapeEvalsE2_7 (.tf tapeEvalsE2_39 tapeEvalsE2_8 (.tf tapeEvalsE2_40 (.vf 105) (.vf 111))))))),
  (3896131511, 113, (.tf tapeEvalsE2_42 tapeEvalsE2_3 (.tf tapeEvalsE2_43 tapeEvalsE2_5 (.tf tapeEvalsE2_44 tapeEvalsE2_7 (.tf tapeEvalsE2_45 tapeEvalsE2_8 (.tf tapeEvalsE2_46 (.vf 105) (.vf 111))))))),
  (1892159168, 114, (.tf tapeEvalsE2_48 (.fb .sub (.vf 112) (.vf 113)) (.fb .mul (.vf 112) (.vf 113)))),
  (953310487, 115, (.tf tapeEvalsE2_49 (.fb .add (.vf 112) (.vf 113)) (.vf 114))),
  (949876565, 116, (.tf tapeEvalsE2_50 (.fb .quo (.vf 112) (.vf 113)) (.vf 115))),
  (4142714716, 117, (.tf tapeEvalsE2_34 tapeEvalsE2_51 (.tf (.vb 2) (.vf 116) (.vf 115)))),
  (2035506206, 118, (.tf tapeEvalsE2_54 tapeEvalsE2_3 (.tf tapeEvalsE2_55 tapeEvalsE2_5 (.tf tapeEvalsE2_56 tapeEvalsE2_7 (.tf tapeEvalsE2_57 tapeEvalsE2_8 (.tf tapeEvalsE2_58 (.vf 105) (.tf tapeEvalsE2_59 (.vf 111) (.vf 117)))))))),
  (3593970643, 119, (.tf tapeEvalsE2_61 tapeEvalsE2_3 (.tf tapeEvalsE2_62 tapeEvalsE2_5 (.tf tapeEvalsE2_63 tapeEvalsE2_7 (.tf tapeEvalsE2_64 tapeEvalsE2_8 (.tf tapeEvalsE2_65 (.vf 105) (.tf tapeEvalsE2_66 (.vf 111) (.vf 117)))))))),
  (2520694798, 120, (.tf tapeEvalsE2_68 (.fb .sub (.vf 118) (.vf 119)) (.fb .mul (.vf 118) (.vf 119)))),
  (1575846099, 121, (.tf tapeEvalsE2_69 (.fb .add (.vf 118) (.vf 119)) (.vf 120))),
  (1572412177, 122, (.tf tapeEvalsE2_70 (.fb .quo (.vf 118) (.vf 119)) (.vf 121))),
  (3457385569, 123, (.tf tapeEvalsE2_52 tapeEvalsE2_71 (.tf (.vb 2) (.vf 122) (.vf 121)))),
  (4038542454, 124, (.tf tapeEvalsE2_74 tapeEvalsE2_3 (.tf tapeEvalsE2_75 tapeEvalsE2_5 (.tf tapeEvalsE2_76 tapeEvalsE2_7 (.tf tapeEvalsE2_77 tapeEvalsE2_8 (.tf tapeEvalsE2_78 (.vf 105) (.tf tapeEvalsE2_79 (.vf 111) (.tf tapeEvalsE2_80 (.vf 117) (.vf 123))))))))),
  (845955791, 125, (.tf tapeEvalsE2_82 tapeEvalsE2_3 (.tf tapeEvalsE2_83 tapeEvalsE2_5 (.tf tapeEvalsE2_84 tapeEvalsE2_7 (.tf tapeEvalsE2_85 tapeEvalsE2_8 (.tf tapeEvalsE2_86 (.vf 105) (.tf tapeEvalsE2_87 (.vf 111) (.tf tapeEvalsE2_88 (.vf 117) (.vf 123))))))))),
  (3149230428, 126, (.tf tapeEvalsE2_90 (.fb .sub (.vf 124) (.vf 125)) (.fb .mul (.vf 124) (.vf 125)))),
  (2198381711, 127, (.tf tapeEvalsE2_91 (.fb .add (.vf 124) (.vf 125)) (.vf 126))),
  (2194947789, 128, (.tf tapeEvalsE2_92 (.fb .quo (.vf 124) (.vf 125)) (.vf 127))),
  (2772056422, 129, (.tf tapeEvalsE2_72 tapeEvalsE2_93 (.tf (.vb 2) (.vf 128) (.vf 127)))),
  (3595724718, 130, (.tf tapeEvalsE2_96 tapeEvalsE2_3 (.tf tapeEvalsE2_97 tapeEvalsE2_5 (.tf tapeEvalsE2_98 tapeEvalsE2_7 (.tf tapeEvalsE2_99 tapeEvalsE2_8 (.tf tapeEvalsE2_100 (.vf 105) (.tf tapeEvalsE2_101 (.vf 111) (.tf tapeEvalsE2_102 (.vf 117) (.tf tapeEvalsE2_103 (.vf 123) (.vf 129)))))))))),
  (4242021537, 131, (.tf tapeEvalsE2_105 tapeEvalsE2_3 (.tf tapeEvalsE2_106 tapeEvalsE2_5 (.tf tapeEvalsE2_107 tapeEvalsE2_7 (.tf tapeEvalsE2_108 tapeEvalsE2_8 (.tf tapeEvalsE2_109 (.vf 105) (.tf tapeEvalsE2_110 (.vf 111) (.tf tapeEvalsE2_111 (.vf 117) (.tf tapeEvalsE2_112 (.vf 123) (.vf 129)))))))))),
  (3777766058, 132, (.tf tapeEvalsE2_114 (.fb .sub (.vf 130) (.vf 131)) (.fb .mul (.vf 130) (.vf 131)))),
  (2820917323, 133, (.tf tapeEvalsE2_115 (.fb .add (.vf 130) (.vf 131)) (.vf 132))),
  (2817483401, 134, (.tf tapeEvalsE2_116 (.fb .quo (.vf 130) (.vf 131)) (.vf 133))),
  (2086727275, 135, (.tf tapeEvalsE2_94 tapeEvalsE2_117 (.tf (.vb 2) (.vf 134) (.vf 133)))),
  (707052998, 136, (.tf tapeEvalsE2_120 tapeEvalsE2_3 (.tf tapeEvalsE2_121 tapeEvalsE2_5 (.tf tapeEvalsE2_122 tapeEvalsE2_7 (.tf tapeEvalsE2_123 tapeEvalsE2_8 (.tf tapeEvalsE2_124 (.vf 105) (.tf tapeEvalsE2_125 (.vf 111) (.tf tapeEvalsE2_126 (.vf 117) (.tf tapeEvalsE2_127 (.vf 123) (.tf tapeEvalsE2_128 (.vf 129) (.vf 135))))))))))),
  (897266008, 137, (.tf tapeEvalsE2_130 tapeEvalsE2_3 (.tf tapeEvalsE2_131 tapeEvalsE2_5 (.tf tapeEvalsE2_132 tapeEvalsE2_7 (.tf tapeEvalsE2_133 tapeEvalsE2_8 (.tf tapeEvalsE2_134 (.vf 105) (.tf tapeEvalsE2_135 (.vf 111) (.tf tapeEvalsE2_136 (.vf 117) (.tf tapeEvalsE2_137 (.vf 123) (.tf tapeEvalsE2_138 (.vf 129) (.vf 135))))))))))),
  (111334397, 138, (.tf tapeEvalsE2_140 (.fb .sub (.vf 136) (.vf 137)) (.fb .mul (.vf 136) (.vf 137)))),
  (3443452935, 139, (.tf tapeEvalsE2_141 (.fb .add (.vf 136) (.vf 137)) (.vf 138))),
  (3440019013, 140, (.tf tapeEvalsE2_142 (.fb .quo (.vf 136) (.vf 137)) (.vf 139))),
  (1401398128, 141, (.tf tapeEvalsE2_118 tapeEvalsE2_143 (.tf (.vb 2) (.vf 140) (.vf 139)))),
  (3962461876, 142, (.tf tapeEvalsE2_146 tapeEvalsE2_3 (.tf tapeEvalsE2_147 tapeEvalsE2_5 (.tf tapeEvalsE2_148 tapeEvalsE2_7 (.tf tapeEvalsE2_149 tapeEvalsE2_8 (.tf tapeEvalsE2_150 (.vf 105) (.tf tapeEvalsE2_151 (.vf 111) (.tf tapeEvalsE2_152 (.vf 117) (.tf tapeEvalsE2_153 (.vf 123) (.tf tapeEvalsE2_154 (.vf 129) (.tf tapeEvalsE2_155 (.vf 135) (.vf 141)))))))))))),
  (3696591077, 143, (.tf tapeEvalsE2_157 tapeEvalsE2_3 (.tf tapeEvalsE2_158 tapeEvalsE2_5 (.tf tapeEvalsE2_159 tapeEvalsE2_7 (.tf tapeEvalsE2_160 tapeEvalsE2_8 (.tf tapeEvalsE2_161 (.vf 105) (.tf tapeEvalsE2_162 (.vf 111) (.tf tapeEvalsE2_163 (.vf 117) (.tf tapeEvalsE2_164 (.vf 123) (.tf tapeEvalsE2_165 (.vf 129) (.tf tapeEvalsE2_166 (.vf 135) (.vf 141)))))))))))),
  (739870027, 144, (.tf tapeEvalsE2_168 (.fb .sub (.vf 142) (.vf 143)) (.fb .mul (.vf 142) (.vf 143)))),
  (4065988547, 145, (.tf tapeEvalsE2_169 (.fb .add (.vf 142) (.vf 143)) (.vf 144))),
  (4062554625, 146, (.tf tapeEvalsE2_170 (.fb .quo (.vf 142) (.vf 143)) (.vf 145))),
  (716068981, 147, (.tf tapeEvalsE2_144 tapeEvalsE2_171 (.tf (.vb 2) (.vf 146) (.vf 145)))),
  (2740303449, 148, (.tf tapeEvalsE2_175 (.vf 135) (.tf tapeEvalsE2_176 (.vf 141) (.vf 147)))),
  (448340907, 149, (.tf tapeEvalsE2_179 (.vf 135) (.tf tapeEvalsE2_180 (.vf 141) (.vf 147)))),
  (2451345656, 150, (.tf tapeEvalsE2_183 (.vf 135) (.tf tapeEvalsE2_184 (.vf 141) (.vf 147)))),
  (3385690025, 151, (.tf tapeEvalsE2_18 tapeEvalsE2_33 (.tf tapeEvalsE2_0 tapeEvalsE2_17 tapeEvalsE2_8))),
  (2109842647, 152, (.tf tapeEvalsE2_34 tapeEvalsE2_51 (.vf 151))),
  (1418513477, 153, (.tf tapeEvalsE2_52 tapeEvalsE2_71 (.vf 152))),
  (727184307, 154, (.tf tapeEvalsE2_72 tapeEvalsE2_93 (.vf 153))),
  (35855137, 155, (.tf tapeEvalsE2_94 tapeEvalsE2_117 (.vf 154))),
  (3639493258, 156, (.tf tapeEvalsE2_118 tapeEvalsE2_143 (.vf 155))),
  (2948164088, 157, (.tf tapeEvalsE2_144 tapeEvalsE2_171 (.vf 156))),
  (3374369074, 158, (.tf (.ic .eql (.ai 9 0 (.ci (.at 4 0) (.ci (.li 5) .n0))) (.li 0)) (.af 31 0 (.ci (.at 4 0) .n0)) tapeEvalsE2_3)),
  (1063026111, 159, (.tf tapeEvalsE2_185 (.vf 158) tapeEvalsE2_3)),
  (3856356760, 160, (.af 30 0 (.ci (.ib .add .i64 (.vi 5) (.li 0)) (.ci (.vi 6) (.ci (.ti tapeEvalsE2_185 (.at 4 0) (.li 3)) .n0))))),
  (3857356763, 161, (.af 30 1 (.ci (.ib .add .i64 (.vi 5) (.li 0)) (.ci (.vi 6) (.ci (.ti tapeEvalsE2_185 (.at 4 0) (.li 3)) .n0))))),
  (1617465874, 162, (.tf (.ic .eql (.ai 9 0 (.ci (.at 4 1) (.ci (.li 5) .n0))) (.li 0)) (.af 31 0 (.ci (.at 4 1) .n0)) tapeEvalsE2_5)),
  (2877780612, 163, (.tf tapeEvalsE2_186 (.vf 162) tapeEvalsE2_5)),
  (141692803, 164, (.af 30 0 (.ci (.ib .add .i64 (.vi 5) (.li 1)) (.ci (.vi 6) (.ci (.ti tapeEvalsE2_186 (.at 4 1) (.li 3)) .n0))))),
  (142692806, 165, (.af 30 1 (.ci (.ib .add .i64 (.vi 5) (.li 1)) (.ci (.vi 6) (.ci (.ti tapeEvalsE2_186 (.at 4 1) (.li 3)) .n0))))),
  (4155529965, 166, (.tf (.ic .eql (.ai 9 0 (.ci (.at 4 2) (.ci (.li 5) .n0))) (.li 0)) (.af 31 0 (.ci (.at 4 2) .n0)) tapeEvalsE2_7)),
  (397567822, 167, (.tf tapeEvalsE2_187 (.vf 166) tapeEvalsE2_7)),
  (721996137, 168, (.af 30 0 (.ci (.ib .add .i64 (.vi 5) (.li 2)) (.ci (.vi 6) (.ci (.ti tapeEvalsE2_187 (.at 4 2) (.li 3)) .n0))))),
  (722996140, 169, (.af 30 1 (.ci (.ib .add .i64 (.vi 5) (.li 2)) (.ci (.vi 6) (.ci (.ti tapeEvalsE2_187 (.at 4 2) (.li 3)) .n0))))),
  (1366231083, 170, (.tf tapeEvalsE2_2 (.vf 159) (.tf tapeEvalsE2_4 (.vf 163) (.tf tapeEvalsE2_6 (.vf 167) tapeEvalsE2_8)))),
  (4292946947, 171, (.tf tapeEvalsE2_10 (.vf 159) (.tf tapeEvalsE2_11 (.vf 163) (.tf tapeEvalsE2_12 (.vf 167) tapeEvalsE2_8)))),
  (1818180310, 172, (.tf tapeEvalsE2_14 (.fb .sub (.vf 170) (.vf 171)) (.fb .mul (.vf 170) (.vf 171)))),
  (821331455, 173, (.tf tapeEvalsE2_15 (.fb .add (.vf 170) (.vf 171)) (.vf 172))),
  (817897533, 174, (.tf tapeEvalsE2_16 (.fb .quo (.vf 170) (.vf 171)) (.vf 173))),
  (1288405999, 175, (.tf tapeEvalsE2_0 tapeEvalsE2_17 (.tf (.vb 2) (.vf 174) (.vf 173)))),
  (1485922098, 176, (.tf tapeEvalsE2_20 (.vf 159) (.tf tapeEvalsE2_21 (.vf 163) (.tf tapeEvalsE2_22 (.vf 167) (.tf tapeEvalsE2_23 tapeEvalsE2_8 (.vf 175)))))),
  (3956554153, 177, (.tf tapeEvalsE2_25 (.vf 159) (.tf tapeEvalsE2_26 (.vf 163) (.tf tapeEvalsE2_27 (.vf 167) (.tf tapeEvalsE2_28 tapeEvalsE2_8 (.vf 175)))))),
  (2446715940, 178, (.tf tapeEvalsE2_30 (.fb .sub (.vf 176) (.vf 177)) (.fb .mul (.vf 176) (.vf 177)))),
  (1443867067, 179, (.tf tapeEvalsE2_31 (.fb .add (.vf 176) (.vf 177)) (.vf 178))),
  (1440433145, 180, (.tf tapeEvalsE2_32 (.fb .quo (.vf 176) (.vf 177)) (.vf 179))),
  (603076852, 181, (.tf tapeEvalsE2_18 tapeEvalsE2_33 (.tf (.vb 2) (.vf 180) (.vf 179)))),
  (4155699233, 182, (.tf tapeEvalsE2_36 (.vf 159) (.tf tapeEvalsE2_37 (.vf 163) (.tf tapeEvalsE2_38 (.vf 167) (.tf tapeEvalsE2_39 tapeEvalsE2_8 (.tf tapeEvalsE2_40 (.vf 175) (.vf 181))))))),
  (1875280188, 183, (.tf tapeEvalsE2_42 (.vf 159) (.tf tapeEvalsE2_43 (.vf 163) (.tf tapeEvalsE2_44 (.vf 167) (.tf tapeEvalsE2_45 tapeEvalsE2_8 (.tf tapeEvalsE2_46 (.vf 175) (.vf 181))))))),
  (3075251570, 184, (.tf tapeEvalsE2_48 (.fb .sub (.vf 182) (.vf 183)) (.fb .mul (.vf 182) (.vf 183)))),
  (2066402679, 185, (.tf tapeEvalsE2_49 (.fb .add (.vf 182) (.vf 183)) (.vf 184))),
  (2062968757, 186, (.tf tapeEvalsE2_50 (.fb .quo (.vf 182) (.vf 183)) (.vf 185))),
  (4212714996, 187, (.tf tapeEvalsE2_34 tapeEvalsE2_51 (.tf (.vb 2) (.vf 186) (.vf 185)))),
  (84655093, 188, (.tf tapeEvalsE2_54 (.vf 159) (.tf tapeEvalsE2_55 (.vf 163) (.tf tapeEvalsE2_56 (.vf 167) (.tf tapeEvalsE2_57 tapeEvalsE2_8 (.tf tapeEvalsE2_58 (.vf 175) (.tf tapeEvalsE2_59 (.vf 181) (.vf 187)))))))),
  (1643119530, 189, (.tf tapeEvalsE2_61 (.vf 159) (.tf tapeEvalsE2_62 (.vf 163) (.tf tapeEvalsE2_63 (.vf 167) (.tf tapeEvalsE2_64 tapeEvalsE2_8 (.tf tapeEvalsE2_65 (.vf 175) (.tf tapeEvalsE2_66 (.vf 181) (.vf 187)))))))),
  (3703787200, 190, (.tf tapeEvalsE2_68 (.fb .sub (.vf 188) (.vf 189)) (.fb .mul (.vf 188) (.vf 189)))),
  (2688938291, 191, (.tf tapeEvalsE2_69 (.fb .add (.vf 188) (.vf 189)) (.vf 190))),
  (2685504369, 192, (.tf tapeEvalsE2_70 (.fb .quo (.vf 188) (.vf 189)) (.vf 191))),
  (3527385849, 193, (.tf tapeEvalsE2_52 tapeEvalsE2_71 (.tf (.vb 2) (.vf 192) (.vf 191)))),
  (2157691551, 194, (.tf tapeEvalsE2_74 (.vf 159) (.tf tapeEvalsE2_75 (.vf 163) (.tf tapeEvalsE2_76 (.vf 167) (.tf tapeEvalsE2_77 tapeEvalsE2_8 (.tf tapeEvalsE2_78 (.vf 175) (.tf tapeEvalsE2_79 (.vf 181) (.tf tapeEvalsE2_80 (.vf 187) (.vf 193))))))))),
  (3260072179, 195, (.tf tapeEvalsE2_82 (.vf 159) (.tf tapeEvalsE2_83 (.vf 163) (.tf tapeEvalsE2_84 (.vf 167) (.tf tapeEvalsE2_85 tapeEvalsE2_8 (.tf tapeEvalsE2_86 (.vf 175) (.tf tapeEvalsE2_87 (.vf 181) (.tf tapeEvalsE2_88 (.vf 187) (.vf 193))))))))),
  (37355539, 196, (.tf tapeEvalsE2_90 (.fb .sub (.vf 194) (.vf 195)) (.fb .mul (.vf 194) (.vf 195)))),
  (3311473903, 197, (.tf tapeEvalsE2_91 (.fb .add (.vf 194) (.vf 195)) (.vf 196))),
  (3308039981, 198, (.tf tapeEvalsE2_92 (.fb .quo (.vf 194) (.vf 195)) (.vf 197))),
  (2842056702, 199, (.tf tapeEvalsE2_72 tapeEvalsE2_93 (.tf (.vb 2) (.vf 198) (.vf 197)))),
  (1784874025, 200, (.tf tapeEvalsE2_96 (.vf 159) (.tf tapeEvalsE2_97 (.vf 163) (.tf tapeEvalsE2_98 (.vf 167) (.tf tapeEvalsE2_99 tapeEvalsE2_8 (.tf tapeEvalsE2_100 (.vf 175) (.tf tapeEvalsE2_101 (.vf 181) (.tf tapeEvalsE2_102 (.vf 187) (.tf tapeEvalsE2_103 (.vf 193) (.vf 199)))))))))),
  (2431170844, 201, (.tf tapeEvalsE2_105 (.vf 159) (.tf tapeEvalsE2_106 (.vf 163) (.tf tapeEvalsE2_107 (.vf 167) (.tf tapeEvalsE2_108 tapeEvalsE2_8 (.tf tapeEvalsE2_109 (.vf 175) (.tf tapeEvalsE2_110 (.vf 181) (.tf tapeEvalsE2_111 (.vf 187) (.tf tapeEvalsE2_112 (.vf 193) (.vf 199)))))))))),
  (665891169, 202, (.tf tapeEvalsE2_114 (.fb .sub (.vf 200) (.vf 201)) (.fb .mul (.vf 200) (.vf 201)))),
  (3934009515, 203, (.tf tapeEvalsE2_115 (.fb .add (.vf 200) (.vf 201)) (.vf 202))),
  (3930575593, 204, (.tf tapeEvalsE2_116 (.fb .quo (.vf 200) (.vf 201)) (.vf 203))),
  (2156727555, 205, (.tf tapeEvalsE2_94 tapeEvalsE2_117 (.tf (.vb 2) (.vf 204) (.vf 203)))),
  (3261169806, 206, (.tf tapeEvalsE2_120 (.vf 159) (.tf tapeEvalsE2_121 (.vf 163) (.tf tapeEvalsE2_122 (.vf 167) (.tf tapeEvalsE2_123 tapeEvalsE2_8 (.tf tapeEvalsE2_124 (.vf 175) (.tf tapeEvalsE2_125 (.vf 181) (.tf tapeEvalsE2_126 (.vf 187) (.tf tapeEvalsE2_127 (.vf 193) (.tf tapeEvalsE2_128 (.vf 199) (.vf 205))))))))))),
  (3451382816, 207, (.tf tapeEvalsE2_130 (.vf 159) (.tf tapeEvalsE2_131 (.vf 163) (.tf tapeEvalsE2_132 (.vf 167) (.tf tapeEvalsE2_133 tapeEvalsE2_8 (.tf tapeEvalsE2_134 (.vf 175) (.tf tapeEvalsE2_135 (.vf 181) (.tf tapeEvalsE2_136 (.vf 187) (.tf tapeEvalsE2_137 (.vf 193) (.tf tapeEvalsE2_138 (.vf 199) (.vf 205))))))))))),
  (1294426799, 208, (.tf tapeEvalsE2_140 (.fb .sub (.vf 206) (.vf 207)) (.fb .mul (.vf 206) (.vf 207)))),
  (261577836, 209, (.tf tapeEvalsE2_141 (.fb .add (.vf 206) (.vf 207)) (.vf 208))),
  (258143914, 210, (.tf tapeEvalsE2_142 (.fb .quo (.vf 206) (.vf 207)) (.vf 209))),
  (1471398408, 211, (.tf tapeEvalsE2_118 tapeEvalsE2_143 (.tf (.vb 2) (.vf 210) (.vf 209)))),
  (2291611603, 212, (.tf tapeEvalsE2_146 (.vf 159) (.tf tapeEvalsE2_147 (.vf 163) (.tf tapeEvalsE2_148 (.vf 167) (.tf tapeEvalsE2_149 tapeEvalsE2_8 (.tf tapeEvalsE2_150 (.vf 175) (.tf tapeEvalsE2_151 (.vf 181) (.tf tapeEvalsE2_152 (.vf 187) (.tf tapeEvalsE2_153 (.vf 193) (.tf tapeEvalsE2_154 (.vf 199) (.tf tapeEvalsE2_155 (.vf 205) (.vf 211)))))))))))),
  (2025740804, 213, (.tf tapeEvalsE2_157 (.vf 159) (.tf tapeEvalsE2_158 (.vf 163) (.tf tapeEvalsE2_159 (.vf 167) (.tf tapeEvalsE2_160 tapeEvalsE2_8 (.tf tapeEvalsE2_161 (.vf 175) (.tf tapeEvalsE2_162 (.vf 181) (.tf tapeEvalsE2_163 (.vf 187) (.tf tapeEvalsE2_164 (.vf 193) (.tf tapeEvalsE2_165 (.vf 199) (.tf tapeEvalsE2_166 (.vf 205) (.vf 211)))))))))))),
  (1922962429, 214, (.tf tapeEvalsE2_168 (.fb .sub (.vf 212) (.vf 213)) (.fb .mul (.vf 212) (.vf 213)))),
  (884113448, 215, (.tf tapeEvalsE2_169 (.fb .add (.vf 212) (.vf 213)) (.vf 214))),
  (880679526, 216, (.tf tapeEvalsE2_170 (.fb .quo (.vf 212) (.vf 213)) (.vf 215))),
  (786069261, 217, (.tf tapeEvalsE2_144 tapeEvalsE2_171 (.tf (.vb 2) (.vf 216) (.vf 215)))),
  (2880303939, 218, (.tf tapeEvalsE2_175 (.vf 205) (.tf tapeEvalsE2_176 (.vf 211) (.vf 217)))),
  (588341397, 219, (.tf tapeEvalsE2_179 (.vf 205) (.tf tapeEvalsE2_180 (.vf 211) (.vf 217)))),
  (2591346146, 220, (.tf tapeEvalsE2_183 (.vf 205) (.tf tapeEvalsE2_184 (.vf 211) (.vf 217)))),
  (1369231092, 221, (.tf tapeEvalsE2_2 (.vf 160) (.tf tapeEvalsE2_4 (.vf 164) (.tf tapeEvalsE2_6 (.vf 168) tapeEvalsE2_8)))),
  (1372231101, 222, (.tf tapeEvalsE2_2 (.vf 161) (.tf tapeEvalsE2_4 (.vf 165) (.tf tapeEvalsE2_6 (.vf 169) tapeEvalsE2_8)))),
  (979665, 223, (.tf tapeEvalsE2_10 (.vf 160) (.tf tapeEvalsE2_11 (.vf 164) (.tf tapeEvalsE2_12 (.vf 168) tapeEvalsE2_8)))),
  (3979674, 224, (.tf tapeEvalsE2_10 (.vf 161) (.tf tapeEvalsE2_11 (.vf 165) (.tf tapeEvalsE2_12 (.vf 169) tapeEvalsE2_8)))),
  (1111080066, 225, (.af 20 0 (.cf (.vf 221) (.cf (.vf 222) (.cf (.vf 223) (.cf (.vf 224) .n0)))))),
  (1112080069, 226, (.af 20 1 (.cf (.vf 221) (.cf (.vf 222) (.cf (.vf 223) (.cf (.vf 224) .n0)))))),
  (389701272, 227, (.af 21 0 (.cf (.vf 221) (.cf (.vf 222) (.cf (.vf 223) (.cf (.vf 224) .n0)))))),
  (390701275, 228, (.af 21 1 (.cf (.vf 221) (.cf (.vf 222) (.cf (.vf 223) (.cf (.vf 224) .n0)))))),
  (3963289769, 229, (.af 22 0 (.cf (.vf 221) (.cf (.vf 222) (.cf (.vf 223) (.cf (.vf 224) .n0)))))),
  (3964289772, 230, (.af 22 1 (.cf (.vf 221) (.cf (.vf 222) (.cf (.vf 223) (.cf (.vf 224) .n0)))))),
  (4254447728, 231, (.tf tapeEvalsE2_14 (.vf 228) (.vf 230))),
  (4253447724, 232, (.tf tapeEvalsE2_14 (.vf 227) (.vf 229))),
  (1400238020, 233, (.tf tapeEvalsE2_15 (.vf 226) (.vf 231))),
  (1399238018, 234, (.tf tapeEvalsE2_15 (.vf 225) (.vf 232))),
  (3241910975, 235, (.af 23 0 (.cf (.vf 221) (.cf (.vf 222) (.cf (.vf 223) (.cf (.vf 224) .n0)))))),
  (3242910978, 236, (.af 23 1 (.cf (.vf 221) (.cf (.vf 222) (.cf (.vf 223) (.cf (.vf 224) .n0)))))),
  (457591486, 237, (.tf tapeEvalsE2_16 (.vf 236) (.vf 233))),
  (456591484, 238, (.tf tapeEvalsE2_16 (.vf 235) (.vf 234))),
  (1351406248, 239, (.tf tapeEvalsE2_0 tapeEvalsE2_17 (.tf (.vb 2) (.vf 237) (.vf 233)))),
  (1352406252, 240, (.tf tapeEvalsE2_0 tapeEvalsE2_17 (.tf (.vb 2) (.vf 238) (.vf 234)))),
  (1488922172, 241, (.tf tapeEvalsE2_20 (.vf 160) (.tf tapeEvalsE2_21 (.vf 164) (.tf tapeEvalsE2_22 (.vf 168) (.tf tapeEvalsE2_23 tapeEvalsE2_8 (.vf 240)))))),
  (1491922180, 242, (.tf tapeEvalsE2_20 (.vf 161) (.tf tapeEvalsE2_21 (.vf 165) (.tf tapeEvalsE2_22 (.vf 169) (.tf tapeEvalsE2_23 tapeEvalsE2_8 (.vf 239)))))),
  (3959554227, 243, (.tf tapeEvalsE2_25 (.vf 160) (.tf tapeEvalsE2_26 (.vf 164) (.tf tapeEvalsE2_27 (.vf 168) (.tf tapeEvalsE2_28 tapeEvalsE2_8 (.vf 240)))))),
  (3962554235, 244, (.tf tapeEvalsE2_25 (.vf 161) (.tf tapeEvalsE2_26 (.vf 165) (.tf tapeEvalsE2_27 (.vf 169) (.tf tapeEvalsE2_28 tapeEvalsE2_8 (.vf 239)))))),
  (1191080306, 245, (.af 20 0 (.cf (.vf 241) (.cf (.vf 242) (.cf (.vf 243) (.cf (.vf 244) .n0)))))),
  (1192080309, 246, (.af 20 1 (.cf (.vf 241) (.cf (.vf 242) (.cf (.vf 243) (.cf (.vf 244) .n0)))))),
  (469701512, 247, (.af 21 0 (.cf (.vf 241) (.cf (.vf 242) (.cf (.vf 243) (.cf (.vf 244) .n0)))))),
  (470701515, 248, (.af 21 1 (.cf (.vf 241) (.cf (.vf 242) (.cf (.vf 243) (.cf (.vf 244) .n0)))))),
  (4043290009, 249, (.af 22 0 (.cf (.vf 241) (.cf (.vf 242) (.cf (.vf 243) (.cf (.vf 244) .n0)))))),
  (4044290012, 250, (.af 22 1 (.cf (.vf 241) (.cf (.vf 242) (.cf (.vf 243) (.cf (.vf 244) .n0)))))),
  (629321578, 251, (.tf tapeEvalsE2_30 (.vf 248) (.vf 250))),
  (628321574, 252, (.tf tapeEvalsE2_30 (.vf 247) (.vf 249))),
  (2070079161, 253, (.tf tapeEvalsE2_31 (.vf 246) (.vf 251))),
  (2069079159, 254, (.tf tapeEvalsE2_31 (.vf 245) (.vf 252))),
  (3321911215, 255, (.af 23 0 (.cf (.vf 241) (.cf (.vf 242) (.cf (.vf 243) (.cf (.vf 244) .n0)))))),
  (3322911218, 256, (.af 23 1 (.cf (.vf 241) (.cf (.vf 242) (.cf (.vf 243) (.cf (.vf 244) .n0)))))),
  (1127432627, 257, (.tf tapeEvalsE2_32 (.vf 256) (.vf 253))),
  (1126432625, 258, (.tf tapeEvalsE2_32 (.vf 255) (.vf 254))),
  (680077157, 259, (.tf tapeEvalsE2_18 tapeEvalsE2_33 (.tf (.vb 2) (.vf 257) (.vf 253)))),
  (681077161, 260, (.tf tapeEvalsE2_18 tapeEvalsE2_33 (.tf (.vb 2) (.vf 258) (.vf 254)))),
  (4223699516, 261, (.tf tapeEvalsE2_36 (.vf 160) (.tf tapeEvalsE2_37 (.vf 164) (.tf tapeEvalsE2_38 (.vf 168) (.tf tapeEvalsE2_39 tapeEvalsE2_8 (.tf tapeEvalsE2_40 (.vf 240) (.vf 260))))))),
  (4225699521, 262, (.tf tapeEvalsE2_36 (.vf 161) (.tf tapeEvalsE2_37 (.vf 165) (.tf tapeEvalsE2_38 (.vf 169) (.tf tapeEvalsE2_39 tapeEvalsE2_8 (.tf tapeEvalsE2_40 (.vf 239) (.vf 259))))))),
  (1943280471, 263, (.tf tapeEvalsE2_42 (.vf 160) (.tf tapeEvalsE2_43 (.vf 164) (.tf tapeEvalsE2_44 (.vf 168) (.tf tapeEvalsE2_45 tapeEvalsE2_8 (.tf tapeEvalsE2_46 (.vf 240) (.vf 260))))))),
  (1945280476, 264, (.tf tapeEvalsE2_42 (.vf 161) (.tf tapeEvalsE2_43 (.vf 165) (.tf tapeEvalsE2_44 (.vf 169) (.tf tapeEvalsE2_45 tapeEvalsE2_8 (.tf tapeEvalsE2_46 (.vf 239) (.vf 259))))))),
  (1271080546, 265, (.af 20 0 (.cf (.vf 261) (.cf (.vf 262) (.cf (.vf 263) (.cf (.vf 264) .n0)))))),
  (1272080549, 266, (.af 20 1 (.cf (.vf 261) (.cf (.vf 262) (.cf (.vf 263) (.cf (.vf 264) .n0)))))),
  (549701752, 267, (.af 21 0 (.cf (.vf 261) (.cf (.vf 262) (.cf (.vf 263) (.cf (.vf 264) .n0)))))),
  (550701755, 268, (.af 21 1 (.cf (.vf 261) (.cf (.vf 262) (.cf (.vf 263) (.cf (.vf 264) .n0)))))),
  (4123290249, 269, (.af 22 0 (.cf (.vf 261) (.cf (.vf 262) (.cf (.vf 263) (.cf (.vf 264) .n0)))))),
  (4124290252, 270, (.af 22 1 (.cf (.vf 261) (.cf (.vf 262) (.cf (.vf 263) (.cf (.vf 264) .n0)))))),
  (1299162719, 271, (.tf tapeEvalsE2_48 (.vf 268) (.vf 270))),
  (1298162715, 272, (.tf tapeEvalsE2_48 (.vf 267) (.vf 269))),
  (2739920302, 273, (.tf tapeEvalsE2_49 (.vf 266) (.vf 271))),
  (2738920300, 274, (.tf tapeEvalsE2_49 (.vf 265) (.vf 272))),
  (3401911455, 275, (.af 23 0 (.cf (.vf 261) (.cf (.vf 262) (.cf (.vf 263) (.cf (.vf 264) .n0)))))),
  (3402911458, 276, (.af 23 1 (.cf (.vf 261) (.cf (.vf 262) (.cf (.vf 263) (.cf (.vf 264) .n0)))))),
  (1797273768, 277, (.tf tapeEvalsE2_50 (.vf 276) (.vf 273))),
  (1796273766, 278, (.tf tapeEvalsE2_50 (.vf 275) (.vf 274))),
  (8748066, 279, (.tf tapeEvalsE2_34 tapeEvalsE2_51 (.tf (.vb 2) (.vf 277) (.vf 273)))),
  (9748070, 280, (.tf tapeEvalsE2_34 tapeEvalsE2_51 (.tf (.vb 2) (.vf 278) (.vf 274)))),
  (231655627, 281, (.tf tapeEvalsE2_54 (.vf 160) (.tf tapeEvalsE2_55 (.vf 164) (.tf tapeEvalsE2_56 (.vf 168) (.tf tapeEvalsE2_57 tapeEvalsE2_8 (.tf tapeEvalsE2_58 (.vf 240) (.tf tapeEvalsE2_59 (.vf 260) (.vf 280)))))))),
  (232655629, 282, (.tf tapeEvalsE2_54 (.vf 161) (.tf tapeEvalsE2_55 (.vf 165) (.tf tapeEvalsE2_56 (.vf 169) (.tf tapeEvalsE2_57 tapeEvalsE2_8 (.tf tapeEvalsE2_58 (.vf 239) (.tf tapeEvalsE2_59 (.vf 259) (.vf 279)))))))),
  (1790120064, 283, (.tf tapeEvalsE2_61 (.vf 160) (.tf tapeEvalsE2_62 (.vf 164) (.tf tapeEvalsE2_63 (.vf 168) (.tf tapeEvalsE2_64 tapeEvalsE2_8 (.tf tapeEvalsE2_65 (.vf 240) (.tf tapeEvalsE2_66 (.vf 260) (.vf 280)))))))),
  (1791120066, 284, (.tf tapeEvalsE2_61 (.vf 161) (.tf tapeEvalsE2_62 (.vf 165) (.tf tapeEvalsE2_63 (.vf 169) (.tf tapeEvalsE2_64 tapeEvalsE2_8 (.tf tapeEvalsE2_65 (.vf 239) (.tf tapeEvalsE2_66 (.vf 259) (.vf 279)))))))),
  (1351080786, 285, (.af 20 0 (.cf (.vf 281) (.cf (.vf 282) (.cf (.vf 283) (.cf (.vf 284) .n0)))))),
  (1352080789, 286, (.af 20 1 (.cf (.vf 281) (.cf (.vf 282) (.cf (.vf 283) (.cf (.vf 284) .n0)))))),
  (629701992, 287, (.af 21 0 (.cf (.vf 281) (.cf (.vf 282) (.cf (.vf 283) (.cf (.vf 284) .n0)))))),
  (630701995, 288, (.af 21 1 (.cf (.vf 281) (.cf (.vf 282) (.cf (.vf 283) (.cf (.vf 284) .n0)))))),
  (4203290489, 289, (.af 22 0 (.cf (.vf 281) (.cf (.vf 282) (.cf (.vf 283) (.cf (.vf 284) .n0)))))),
  (4204290492, 290, (.af 22 1 (.cf (.vf 281) (.cf (.vf 282) (.cf (.vf 283) (.cf (.vf 284) .n0)))))),
  (1969003860, 291, (.tf tapeEvalsE2_68 (.vf 288) (.vf 290))),
  (1968003856, 292, (.tf tapeEvalsE2_68 (.vf 287) (.vf 289))),
  (3409761443, 293, (.tf tapeEvalsE2_69 (.vf 286) (.vf 291))),
  (3408761441, 294, (.tf tapeEvalsE2_69 (.vf 285) (.vf 292))),
  (3481911695, 295, (.af 23 0 (.cf (.vf 281) (.cf (.vf 282) (.cf (.vf 283) (.cf (.vf 284) .n0)))))),
  (3482911698, 296, (.af 23 1 (.cf (.vf 281) (.cf (.vf 282) (.cf (.vf 283) (.cf (.vf 284) .n0)))))),
  (2467114909, 297, (.tf tapeEvalsE2_70 (.vf 296) (.vf 293))),
  (2466114907, 298, (.tf tapeEvalsE2_70 (.vf 295) (.vf 294))),
  (3632386266, 299, (.tf tapeEvalsE2_52 tapeEvalsE2_71 (.tf (.vb 2) (.vf 297) (.vf 293)))),
  (3633386270, 300, (.tf tapeEvalsE2_52 tapeEvalsE2_71 (.tf (.vb 2) (.vf 298) (.vf 294)))),
  (2397692378, 301, (.tf tapeEvalsE2_74 (.vf 160) (.tf tapeEvalsE2_75 (.vf 164) (.tf tapeEvalsE2_76 (.vf 168) (.tf tapeEvalsE2_77 tapeEvalsE2_8 (.tf tapeEvalsE2_78 (.vf 240) (.tf tapeEvalsE2_79 (.vf 260) (.tf tapeEvalsE2_80 (.vf 280) (.vf 300))))))))),
  (2397692377, 302, (.tf tapeEvalsE2_74 (.vf 161) (.tf tapeEvalsE2_75 (.vf 165) (.tf tapeEvalsE2_76 (.vf 169) (.tf tapeEvalsE2_77 tapeEvalsE2_8 (.tf tapeEvalsE2_78 (.vf 239) (.tf tapeEvalsE2_79 (.vf 259) (.tf tapeEvalsE2_80 (.vf 279) (.vf 299))))))))),
  (3500073006, 303, (.tf tapeEvalsE2_82 (.vf 160) (.tf tapeEvalsE2_83 (.vf 164) (.tf tapeEvalsE2_84 (.vf 168) (.tf tapeEvalsE2_85 tapeEvalsE2_8 (.tf tapeEvalsE2_86 (.vf 240) (.tf tapeEvalsE2_87 (.vf 260) (.tf tapeEvalsE2_88 (.vf 280) (.vf 300))))))))),
  (3500073005, 304, (.tf tapeEvalsE2_82 (.vf 161) (.tf tapeEvalsE2_83 (.vf 165) (.tf tapeEvalsE2_84 (.vf 169) (.tf tapeEvalsE2_85 tapeEvalsE2_8 (.tf tapeEvalsE2_86 (.vf 239) (.tf tapeEvalsE2_87 (.vf 259) (.tf tapeEvalsE2_88 (.vf 279) (.vf 299))))))))),
  (1431081026, 305, (.af 20 0 (.cf (.vf 301) (.cf (.vf 302) (.cf (.vf 303) (.cf (.vf 304) .n0)))))),
  (1432081029, 306, (.af 20 1 (.cf (.vf 301) (.cf (.vf 302) (.cf (.vf 303) (.cf (.vf 304) .n0)))))),
  (709702232, 307, (.af 21 0 (.cf (.vf 301) (.cf (.vf 302) (.cf (.vf 303) (.cf (.vf 304) .n0)))))),
  (710702235, 308, (.af 21 1 (.cf (.vf 301) (.cf (.vf 302) (.cf (.vf 303) (.cf (.vf 304) .n0)))))),
  (4283290729, 309, (.af 22 0 (.cf (.vf 301) (.cf (.vf 302) (.cf (.vf 303) (.cf (.vf 304) .n0)))))),
  (4284290732, 310, (.af 22 1 (.cf (.vf 301) (.cf (.vf 302) (.cf (.vf 303) (.cf (.vf 304) .n0)))))),
  (2638845001, 311, (.tf tapeEvalsE2_90 (.vf 308) (.vf 310))),
  (2637844997, 312, (.tf tapeEvalsE2_90 (.vf 307) (.vf 309))),
  (4079602584, 313, (.tf tapeEvalsE2_91 (.vf 306) (.vf 311))),
  (4078602582, 314, (.tf tapeEvalsE2_91 (.vf 305) (.vf 312))),
  (3561911935, 315, (.af 23 0 (.cf (.vf 301) (.cf (.vf 302) (.cf (.vf 303) (.cf (.vf 304) .n0)))))),
  (3562911938, 316, (.af 23 1 (.cf (.vf 301) (.cf (.vf 302) (.cf (.vf 303) (.cf (.vf 304) .n0)))))),
  (3136956050, 317, (.tf tapeEvalsE2_92 (.vf 316) (.vf 313))),
  (3135956048, 318, (.tf tapeEvalsE2_92 (.vf 315) (.vf 314))),
  (2961057175, 319, (.tf tapeEvalsE2_72 tapeEvalsE2_93 (.tf (.vb 2) (.vf 317) (.vf 313)))),
  (2962057179, 320, (.tf tapeEvalsE2_72 tapeEvalsE2_93 (.tf (.vb 2) (.vf 318) (.vf 314)))),
  (2131875187, 321, (.tf tapeEvalsE2_96 (.vf 160) (.tf tapeEvalsE2_97 (.vf 164) (.tf tapeEvalsE2_98 (.vf 168) (.tf tapeEvalsE2_99 tapeEvalsE2_8 (.tf tapeEvalsE2_100 (.vf 240) (.tf tapeEvalsE2_101 (.vf 260) (.tf tapeEvalsE2_102 (.vf 280) (.tf tapeEvalsE2_103 (.vf 300) (.vf 320)))))))))),
  (2130875183, 322, (.tf tapeEvalsE2_96 (.vf 161) (.tf tapeEvalsE2_97 (.vf 165) (.tf tapeEvalsE2_98 (.vf 169) (.tf tapeEvalsE2_99 tapeEvalsE2_8 (.tf tapeEvalsE2_100 (.vf 239) (.tf tapeEvalsE2_101 (.vf 259) (.tf tapeEvalsE2_102 (.vf 279) (.tf tapeEvalsE2_103 (.vf 299) (.vf 319)))))))))),
  (2778172006, 323, (.tf tapeEvalsE2_105 (.vf 160) (.tf tapeEvalsE2_106 (.vf 164) (.tf tapeEvalsE2_107 (.vf 168) (.tf tapeEvalsE2_108 tapeEvalsE2_8 (.tf tapeEvalsE2_109 (.vf 240) (.tf tapeEvalsE2_110 (.vf 260) (.tf tapeEvalsE2_111 (.vf 280) (.tf tapeEvalsE2_112 (.vf 300) (.vf 320)))))))))),
  (2777172002, 324, (.tf tapeEvalsE2_105 (.vf 161) (.tf tapeEvalsE2_106 (.vf 165) (.tf tapeEvalsE2_107 (.vf 169) (.tf tapeEvalsE2_108 tapeEvalsE2_8 (.tf tapeEvalsE2_109 (.vf 239) (.tf tapeEvalsE2_110 (.vf 259) (.tf tapeEvalsE2_111 (.vf 279) (.tf tapeEvalsE2_112 (.vf 299) (.vf 319)))))))))),
  (1511081266, 325, (.af 20 0 (.cf (.vf 321) (.cf (.vf 322) (.cf (.vf 323) (.cf (.vf 324) .n0)))))),
  (1512081269, 326, (.af 20 1 (.cf (.vf 321) (.cf (.vf 322) (.cf (.vf 323) (.cf (.vf 324) .n0)))))),
  (789702472, 327, (.af 21 0 (.cf (.vf 321) (.cf (.vf 322) (.cf (.vf 323) (.cf (.vf 324) .n0)))))),
  (790702475, 328, (.af 21 1 (.cf (.vf 321) (.cf (.vf 322) (.cf (.vf 323) (.cf (.vf 324) .n0)))))),
  (68323678, 329, (.af 22 0 (.cf (.vf 321) (.cf (.vf 322) (.cf (.vf 323) (.cf (.vf 324) .n0)))))),
  (69323681, 330, (.af 22 1 (.cf (.vf 321) (.cf (.vf 322) (.cf (.vf 323) (.cf (.vf 324) .n0)))))),
  (3308686142, 331, (.tf tapeEvalsE2_114 (.vf 328) (.vf 330))),
  (3307686138, 332, (.tf tapeEvalsE2_114 (.vf 327) (.vf 329))),
  (454476434, 333, (.tf tapeEvalsE2_115 (.vf 326) (.vf 331))),
  (453476432, 334, (.tf tapeEvalsE2_115 (.vf 325) (.vf 332))),
  (3641912175, 335, (.af 23 0 (.cf (.vf 321) (.cf (.vf 322) (.cf (.vf 323) (.cf (.vf 324) .n0)))))),
  (3642912178, 336, (.af 23 1 (.cf (.vf 321) (.cf (.vf 322) (.cf (.vf 323) (.cf (.vf 324) .n0)))))),
  (3806797191, 337, (.tf tapeEvalsE2_116 (.vf 336) (.vf 333))),
  (3805797189, 338, (.tf tapeEvalsE2_116 (.vf 335) (.vf 334))),
  (2289728084, 339, (.tf tapeEvalsE2_94 tapeEvalsE2_117 (.tf (.vb 2) (.vf 337) (.vf 333)))),
  (2290728088, 340, (.tf tapeEvalsE2_94 tapeEvalsE2_117 (.tf (.vb 2) (.vf 338) (.vf 334)))),
  (3729171345, 341, (.tf tapeEvalsE2_120 (.vf 160) (.tf tapeEvalsE2_121 (.vf 164) (.tf tapeEvalsE2_122 (.vf 168) (.tf tapeEvalsE2_123 tapeEvalsE2_8 (.tf tapeEvalsE2_124 (.vf 240) (.tf tapeEvalsE2_125 (.vf 260) (.tf tapeEvalsE2_126 (.vf 280) (.tf tapeEvalsE2_127 (.vf 300) (.tf tapeEvalsE2_128 (.vf 320) (.vf 340))))))))))),
  (3727171338, 342, (.tf tapeEvalsE2_120 (.vf 161) (.tf tapeEvalsE2_121 (.vf 165) (.tf tapeEvalsE2_122 (.vf 169) (.tf tapeEvalsE2_123 tapeEvalsE2_8 (.tf tapeEvalsE2_124 (.vf 239) (.tf tapeEvalsE2_125 (.vf 259) (.tf tapeEvalsE2_126 (.vf 279) (.tf tapeEvalsE2_127 (.vf 299) (.tf tapeEvalsE2_128 (.vf 319) (.vf 339))))))))))),
  (3919384355, 343, (.tf tapeEvalsE2_130 (.vf 160) (.tf tapeEvalsE2_131 (.vf 164) (.tf tapeEvalsE2_132 (.vf 168) (.tf tapeEvalsE2_133 tapeEvalsE2_8 (.tf tapeEvalsE2_134 (.vf 240) (.tf tapeEvalsE2_135 (.vf 260) (.tf tapeEvalsE2_136 (.vf 280) (.tf tapeEvalsE2_137 (.vf 300) (.tf tapeEvalsE2_138 (.vf 320) (.vf 340))))))))))),
  (3917384348, 344, (.tf tapeEvalsE2_130 (.vf 161) (.tf tapeEvalsE2_131 (.vf 165) (.tf tapeEvalsE2_132 (.vf 169) (.tf tapeEvalsE2_133 tapeEvalsE2_8 (.tf tapeEvalsE2_134 (.vf 239) (.tf tapeEvalsE2_135 (.vf 259) (.tf tapeEvalsE2_136 (.vf 279) (.tf tapeEvalsE2_137 (.vf 299) (.tf tapeEvalsE2_138 (.vf 319) (.vf 339))))))))))),
  (1591081506, 345, (.af 20 0 (.cf (.vf 341) (.cf (.vf 342) (.cf (.vf 343) (.cf (.vf 344) .n0)))))),
  (1592081509, 346, (.af 20 1 (.cf (.vf 341) (.cf (.vf 342) (.cf (.vf 343) (.cf (.vf 344) .n0)))))),
  (869702712, 347, (.af 21 0 (.cf (.vf 341) (.cf (.vf 342) (.cf (.vf 343) (.cf (.vf 344) .n0)))))),
  (870702715, 348, (.af 21 1 (.cf (.vf 341) (.cf (.vf 342) (.cf (.vf 343) (.cf (.vf 344) .n0)))))),
  (148323918, 349, (.af 22 0 (.cf (.vf 341) (.cf (.vf 342) (.cf (.vf 343) (.cf (.vf 344) .n0)))))),
  (149323921, 350, (.af 22 1 (.cf (.vf 341) (.cf (.vf 342) (.cf (.vf 343) (.cf (.vf 344) .n0)))))),
  (3978527283, 351, (.tf tapeEvalsE2_140 (.vf 348) (.vf 350))),
  (3977527279, 352, (.tf tapeEvalsE2_140 (.vf 347) (.vf 349))),
  (1124317575, 353, (.tf tapeEvalsE2_141 (.vf 346) (.vf 351))),
  (1123317573, 354, (.tf tapeEvalsE2_141 (.vf 345) (.vf 352))),
  (3721912415, 355, (.af 23 0 (.cf (.vf 341) (.cf (.vf 342) (.cf (.vf 343) (.cf (.vf 344) .n0)))))),
  (3722912418, 356, (.af 23 1 (.cf (.vf 341) (.cf (.vf 342) (.cf (.vf 343) (.cf (.vf 344) .n0)))))),
  (181671041, 357, (.tf tapeEvalsE2_142 (.vf 356) (.vf 353))),
  (180671039, 358, (.tf tapeEvalsE2_142 (.vf 355) (.vf 354))),
  (1618398993, 359, (.tf tapeEvalsE2_118 tapeEvalsE2_143 (.tf (.vb 2) (.vf 357) (.vf 353)))),
  (1619398997, 360, (.tf tapeEvalsE2_118 tapeEvalsE2_143 (.tf (.vb 2) (.vf 358) (.vf 354)))),
  (2894613561, 361, (.tf tapeEvalsE2_146 (.vf 160) (.tf tapeEvalsE2_147 (.vf 164) (.tf tapeEvalsE2_148 (.vf 168) (.tf tapeEvalsE2_149 tapeEvalsE2_8 (.tf tapeEvalsE2_150 (.vf 240) (.tf tapeEvalsE2_151 (.vf 260) (.tf tapeEvalsE2_152 (.vf 280) (.tf tapeEvalsE2_153 (.vf 300) (.tf tapeEvalsE2_154 (.vf 320) (.tf tapeEvalsE2_155 (.vf 340) (.vf 360)))))))))))),
  (2891613551, 362, (.tf tapeEvalsE2_146 (.vf 161) (.tf tapeEvalsE2_147 (.vf 165) (.tf tapeEvalsE2_148 (.vf 169) (.tf tapeEvalsE2_149 tapeEvalsE2_8 (.tf tapeEvalsE2_150 (.vf 239) (.tf tapeEvalsE2_151 (.vf 259) (.tf tapeEvalsE2_152 (.vf 279) (.tf tapeEvalsE2_153 (.vf 299) (.tf tapeEvalsE2_154 (.vf 319) (.tf tapeEvalsE2_155 (.vf 339) (.vf 359)))))))))))),
  (2628742762, 363, (.tf tapeEvalsE2_157 (.vf 160) (.tf tapeEvalsE2_158 (.vf 164) (.tf tapeEvalsE2_159 (.vf 168) (.tf tapeEvalsE2_160 tapeEvalsE2_8 (.tf tapeEvalsE2_161 (.vf 240) (.tf tapeEvalsE2_162 (.vf 260) (.tf tapeEvalsE2_163 (.vf 280) (.tf tapeEvalsE2_164 (.vf 300) (.tf tapeEvalsE2_165 (.vf 320) (.tf tapeEvalsE2_166 (.vf 340) (.vf 360)))))))))))),
  (2625742752, 364, (.tf tapeEvalsE2_157 (.vf 161) (.tf tapeEvalsE2_158 (.vf 165) (.tf tapeEvalsE2_159 (.vf 169) (.tf tapeEvalsE2_160 tapeEvalsE2_8 (.tf tapeEvalsE2_161 (.vf 239) (.tf tapeEvalsE2_162 (.vf 259) (.tf tapeEvalsE2_163 (.vf 279) (.tf tapeEvalsE2_164 (.vf 299) (.tf tapeEvalsE2_165 (.vf 319) (.tf tapeEvalsE2_166 (.vf 339) (.vf 359)))))))))))),
  (1671081746, 365, (.af 20 0 (.cf (.vf 361) (.cf (.vf 362) (.cf (.vf 363) (.cf (.vf 364) .n0)))))),
  (1672081749, 366, (.af 20 1 (.cf (.vf 361) (.cf (.vf 362) (.cf (.vf 363) (.cf (.vf 364) .n0)))))),
  (949702952, 367, (.af 21 0 (.cf (.vf 361) (.cf (.vf 362) (.cf (.vf 363) (.cf (.vf 364) .n0)))))),
  (950702955, 368, (.af 21 1 (.cf (.vf 361) (.cf (.vf 362) (.cf (.vf 363) (.cf (.vf 364) .n0)))))),
  (228324158, 369, (.af 22 0 (.cf (.vf 361) (.cf (.vf 362) (.cf (.vf 363) (.cf (.vf 364) .n0)))))),
  (229324161, 370, (.af 22 1 (.cf (.vf 361) (.cf (.vf 362) (.cf (.vf 363) (.cf (.vf 364) .n0)))))),
  (353401133, 371, (.tf tapeEvalsE2_168 (.vf 368) (.vf 370))),
  (352401129, 372, (.tf tapeEvalsE2_168 (.vf 367) (.vf 369))),
  (1794158716, 373, (.tf tapeEvalsE2_169 (.vf 366) (.vf 371))),
  (1793158714, 374, (.tf tapeEvalsE2_169 (.vf 365) (.vf 372))),
  (3801912655, 375, (.af 23 0 (.cf (.vf 361) (.cf (.vf 362) (.cf (.vf 363) (.cf (.vf 364) .n0)))))),
  (3802912658, 376, (.af 23 1 (.cf (.vf 361) (.cf (.vf 362) (.cf (.vf 363) (.cf (.vf 364) .n0)))))),
  (851512182, 377, (.tf tapeEvalsE2_170 (.vf 376) (.vf 373))),
  (850512180, 378, (.tf tapeEvalsE2_170 (.vf 375) (.vf 374))),
  (947069902, 379, (.tf tapeEvalsE2_144 tapeEvalsE2_171 (.tf (.vb 2) (.vf 377) (.vf 373)))),
  (948069906, 380, (.tf tapeEvalsE2_144 tapeEvalsE2_171 (.tf (.vb 2) (.vf 378) (.vf 374)))),
  (3164304954, 381, (.tf tapeEvalsE2_175 (.vf 340) (.tf tapeEvalsE2_176 (.vf 360) (.vf 380)))),
  (3162304947, 382, (.tf tapeEvalsE2_175 (.vf 339) (.tf tapeEvalsE2_176 (.vf 359) (.vf 379)))),
  (872342412, 383, (.tf tapeEvalsE2_179 (.vf 340) (.tf tapeEvalsE2_180 (.vf 360) (.vf 380)))),
  (870342405, 384, (.tf tapeEvalsE2_179 (.vf 339) (.tf tapeEvalsE2_180 (.vf 359) (.vf 379)))),
  (2875347161, 385, (.tf tapeEvalsE2_183 (.vf 340) (.tf tapeEvalsE2_184 (.vf 360) (.vf 380)))),
  (2873347154, 386, (.tf tapeEvalsE2_183 (.vf 339) (.tf tapeEvalsE2_184 (.vf 359) (.vf 379)))),
  (2322993328, 387, (.tf tapeEvalsE2_189 (.vf 129) (.tf tapeEvalsE2_190 (.vf 135) (.vf 141)))),
  (31030786, 388, (.tf tapeEvalsE2_192 (.vf 129) (.tf tapeEvalsE2_193 (.vf 135) (.vf 141)))),
  (2034035535, 389, (.tf tapeEvalsE2_195 (.vf 129) (.tf tapeEvalsE2_196 (.vf 135) (.vf 141)))),
  (2462993818, 390, (.tf tapeEvalsE2_189 (.vf 199) (.tf tapeEvalsE2_190 (.vf 205) (.vf 211)))),
  (171031276, 391, (.tf tapeEvalsE2_192 (.vf 199) (.tf tapeEvalsE2_193 (.vf 205) (.vf 211)))),
  (2174036025, 392, (.tf tapeEvalsE2_195 (.vf 199) (.tf tapeEvalsE2_196 (.vf 205) (.vf 211)))),
  (2718994735, 393, (.tf tapeEvalsE2_189 (.vf 320) (.tf tapeEvalsE2_190 (.vf 340) (.vf 360)))),
  (2716994728, 394, (.tf tapeEvalsE2_189 (.vf 319) (.tf tapeEvalsE2_190 (.vf 339) (.vf 359)))),
  (427032193, 395, (.tf tapeEvalsE2_192 (.vf 320) (.tf tapeEvalsE2_193 (.vf 340) (.vf 360)))),
  (425032186, 396, (.tf tapeEvalsE2_192 (.vf 319) (.tf tapeEvalsE2_193 (.vf 339) (.vf 359)))),
  (2430036942, 397, (.tf tapeEvalsE2_195 (.vf 320) (.tf tapeEvalsE2_196 (.vf 340) (.vf 360)))),
  (2428036935, 398, (.tf tapeEvalsE2_195 (.vf 319) (.tf tapeEvalsE2_196 (.vf 339) (.vf 359)))),
  (1905683207, 399, (.tf tapeEvalsE2_198 (.vf 123) (.tf tapeEvalsE2_199 (.vf 129) (.vf 135)))),
  (3908687956, 400, (.tf tapeEvalsE2_201 (.vf 123) (.tf tapeEvalsE2_202 (.vf 129) (.vf 135)))),
  (1616725414, 401, (.tf tapeEvalsE2_204 (.vf 123) (.tf tapeEvalsE2_205 (.vf 129) (.vf 135)))),
  (2045683697, 402, (.tf tapeEvalsE2_198 (.vf 193) (.tf tapeEvalsE2_199 (.vf 199) (.vf 205)))),
  (4048688446, 403, (.tf tapeEvalsE2_201 (.vf 193) (.tf tapeEvalsE2_202 (.vf 199) (.vf 205)))),
  (1756725904, 404, (.tf tapeEvalsE2_204 (.vf 193) (.tf tapeEvalsE2_205 (.vf 199) (.vf 205)))),
  (2273684516, 405, (.tf tapeEvalsE2_198 (.vf 300) (.tf tapeEvalsE2_199 (.vf 320) (.vf 340)))),
  (2271684509, 406, (.tf tapeEvalsE2_198 (.vf 299) (.tf tapeEvalsE2_199 (.vf 319) (.vf 339)))),
  (4276689265, 407, (.tf tapeEvalsE2_201 (.vf 300) (.tf tapeEvalsE2_202 (.vf 320) (.vf 340)))),
  (4274689258, 408, (.tf tapeEvalsE2_201 (.vf 299) (.tf tapeEvalsE2_202 (.vf 319) (.vf 339)))),
  (1984726723, 409, (.tf tapeEvalsE2_204 (.vf 300) (.tf tapeEvalsE2_205 (.vf 320) (.vf 340)))),
  (1982726716, 410, (.tf tapeEvalsE2_204 (.vf 299) (.tf tapeEvalsE2_205 (.vf 319) (.vf 339)))),
  (1488373086, 411, (.tf tapeEvalsE2_207 (.vf 117) (.tf tapeEvalsE2_208 (.vf 123) (.vf 129)))),
  (3491377835, 412, (.tf tapeEvalsE2_210 (.vf 117) (.tf tapeEvalsE2_211 (.vf 123) (.vf 129)))),
  (1199415293, 413, (.tf tapeEvalsE2_213 (.vf 117) (.tf tapeEvalsE2_214 (.vf 123) (.vf 129)))),
  (1628373576, 414, (.tf tapeEvalsE2_207 (.vf 187) (.tf tapeEvalsE2_208 (.vf 193) (.vf 199)))),
  (3631378325, 415, (.tf tapeEvalsE2_210 (.vf 187) (.tf tapeEvalsE2_211 (.vf 193) (.vf 199)))),
  (1339415783, 416, (.tf tapeEvalsE2_213 (.vf 187) (.tf tapeEvalsE2_214 (.vf 193) (.vf 199)))),
  (1828374297, 417, (.tf tapeEvalsE2_207 (.vf 280) (.tf tapeEvalsE2_208 (.vf 300) (.vf 320)))),
  (1826374290, 418, (.tf tapeEvalsE2_207 (.vf 279) (.tf tapeEvalsE2_208 (.vf 299) (.vf 319)))),
  (3831379046, 419, (.tf tapeEvalsE2_210 (.vf 280) (.tf tapeEvalsE2_211 (.vf 300) (.vf 320)))),
  (3829379039, 420, (.tf tapeEvalsE2_210 (.vf 279) (.tf tapeEvalsE2_211 (.vf 299) (.vf 319)))),
  (1539416504, 421, (.tf tapeEvalsE2_213 (.vf 280) (.tf tapeEvalsE2_214 (.vf 300) (.vf 320)))),
  (1537416497, 422, (.tf tapeEvalsE2_213 (.vf 279) (.tf tapeEvalsE2_214 (.vf 299) (.vf 319)))),
  (1071062965, 423, (.tf tapeEvalsE2_216 (.vf 111) (.tf tapeEvalsE2_217 (.vf 117) (.vf 123)))),
  (3074067714, 424, (.tf tapeEvalsE2_219 (.vf 111) (.tf tapeEvalsE2_220 (.vf 117) (.vf 123)))),
  (782105172, 425, (.tf tapeEvalsE2_222 (.vf 111) (.tf tapeEvalsE2_223 (.vf 117) (.vf 123)))),
  (1211063455, 426, (.tf tapeEvalsE2_216 (.vf 181) (.tf tapeEvalsE2_217 (.vf 187) (.vf 193)))),
  (3214068204, 427, (.tf tapeEvalsE2_219 (.vf 181) (.tf tapeEvalsE2_220 (.vf 187) (.vf 193)))),
  (922105662, 428, (.tf tapeEvalsE2_222 (.vf 181) (.tf tapeEvalsE2_223 (.vf 187) (.vf 193)))),
  (1383064078, 429, (.tf tapeEvalsE2_216 (.vf 260) (.tf tapeEvalsE2_217 (.vf 280) (.vf 300)))),
  (1381064071, 430, (.tf tapeEvalsE2_216 (.vf 259) (.tf tapeEvalsE2_217 (.vf 279) (.vf 299)))),
  (3386068827, 431, (.tf tapeEvalsE2_219 (.vf 260) (.tf tapeEvalsE2_220 (.vf 280) (.vf 300)))),
  (3384068820, 432, (.tf tapeEvalsE2_219 (.vf 259) (.tf tapeEvalsE2_220 (.vf 279) (.vf 299)))),
  (1094106285, 433, (.tf tapeEvalsE2_222 (.vf 260) (.tf tapeEvalsE2_223 (.vf 280) (.vf 300)))),
  (1092106278, 434, (.tf tapeEvalsE2_222 (.vf 259) (.tf tapeEvalsE2_223 (.vf 279) (.vf 299)))),
  (653752844, 435, (.tf tapeEvalsE2_225 (.vf 105) (.tf tapeEvalsE2_226 (.vf 111) (.vf 117)))),
  (2656757593, 436, (.tf tapeEvalsE2_228 (.vf 105) (.tf tapeEvalsE2_229 (.vf 111) (.vf 117)))),
  (364795051, 437, (.tf tapeEvalsE2_231 (.vf 105) (.tf tapeEvalsE2_232 (.vf 111) (.vf 117)))),
  (793753334, 438, (.tf tapeEvalsE2_225 (.vf 175) (.tf tapeEvalsE2_226 (.vf 181) (.vf 187)))),
  (2796758083, 439, (.tf tapeEvalsE2_228 (.vf 175) (.tf tapeEvalsE2_229 (.vf 181) (.vf 187)))),
  (504795541, 440, (.tf tapeEvalsE2_231 (.vf 175) (.tf tapeEvalsE2_232 (.vf 181) (.vf 187)))),
  (937753859, 441, (.tf tapeEvalsE2_225 (.vf 240) (.tf tapeEvalsE2_226 (.vf 260) (.vf 280)))),
  (935753852, 442, (.tf tapeEvalsE2_225 (.vf 239) (.tf tapeEvalsE2_226 (.vf 259) (.vf 279)))),
  (2940758608, 443, (.tf tapeEvalsE2_228 (.vf 240) (.tf tapeEvalsE2_229 (.vf 260) (.vf 280)))),
  (2938758601, 444, (.tf tapeEvalsE2_228 (.vf 239) (.tf tapeEvalsE2_229 (.vf 259) (.vf 279)))),
  (648796066, 445, (.tf tapeEvalsE2_231 (.vf 240) (.tf tapeEvalsE2_232 (.vf 260) (.vf 280)))),
  (646796059, 446, (.tf tapeEvalsE2_231 (.vf 239) (.tf tapeEvalsE2_232 (.vf 259) (.vf 279)))),
  (994454768, 447, (.tf tapeEvalsE2_234 tapeEvalsE2_8 (.tf tapeEvalsE2_235 (.vf 105) (.vf 111)))),
  (2997459517, 448, (.tf tapeEvalsE2_237 tapeEvalsE2_8 (.tf tapeEvalsE2_238 (.vf 105) (.vf 111)))),
  (705496975, 449, (.tf tapeEvalsE2_240 tapeEvalsE2_8 (.tf tapeEvalsE2_241 (.vf 105) (.vf 111)))),
  (1064455048, 450, (.tf tapeEvalsE2_234 tapeEvalsE2_8 (.tf tapeEvalsE2_235 (.vf 175) (.vf 181)))),
  (3067459797, 451, (.tf tapeEvalsE2_237 tapeEvalsE2_8 (.tf tapeEvalsE2_238 (.vf 175) (.vf 181)))),
  (775497255, 452, (.tf tapeEvalsE2_240 tapeEvalsE2_8 (.tf tapeEvalsE2_241 (.vf 175) (.vf 181)))),
  (1129455322, 453, (.tf tapeEvalsE2_234 tapeEvalsE2_8 (.tf tapeEvalsE2_235 (.vf 240) (.vf 260)))),
  (1128455318, 454, (.tf tapeEvalsE2_234 tapeEvalsE2_8 (.tf tapeEvalsE2_235 (.vf 239) (.vf 259)))),
  (3132460071, 455, (.tf tapeEvalsE2_237 tapeEvalsE2_8 (.tf tapeEvalsE2_238 (.vf 240) (.vf 260)))),
  (3131460067, 456, (.tf tapeEvalsE2_237 tapeEvalsE2_8 (.tf tapeEvalsE2_238 (.vf 239) (.vf 259)))),
  (840497529, 457, (.tf tapeEvalsE2_240 tapeEvalsE2_8 (.tf tapeEvalsE2_241 (.vf 240) (.vf 260)))),
  (839497525, 458, (.tf tapeEvalsE2_240 tapeEvalsE2_8 (.tf tapeEvalsE2_241 (.vf 239) (.vf 259)))),
  (3187446900, 459, (.tf tapeEvalsE2_243 tapeEvalsE2_7 (.tf tapeEvalsE2_244 tapeEvalsE2_8 (.vf 105)))),
  (895484358, 460, (.tf tapeEvalsE2_246 tapeEvalsE2_7 (.tf tapeEvalsE2_247 tapeEvalsE2_8 (.vf 105)))),
  (2898489107, 461, (.tf tapeEvalsE2_249 tapeEvalsE2_7 (.tf tapeEvalsE2_250 tapeEvalsE2_8 (.vf 105)))),
  (651144939, 462, (.tf tapeEvalsE2_243 (.vf 167) (.tf tapeEvalsE2_244 tapeEvalsE2_8 (.vf 175)))),
  (2654149688, 463, (.tf tapeEvalsE2_246 (.vf 167) (.tf tapeEvalsE2_247 tapeEvalsE2_8 (.vf 175)))),
  (362187146, 464, (.tf tapeEvalsE2_249 (.vf 167) (.tf tapeEvalsE2_250 tapeEvalsE2_8 (.vf 175)))),
  (652145007, 465, (.tf tapeEvalsE2_243 (.vf 168) (.tf tapeEvalsE2_244 tapeEvalsE2_8 (.vf 240)))),
  (653145009, 466, (.tf tapeEvalsE2_243 (.vf 169) (.tf tapeEvalsE2_244 tapeEvalsE2_8 (.vf 239)))),
  (2655149756, 467, (.tf tapeEvalsE2_246 (.vf 168) (.tf tapeEvalsE2_247 tapeEvalsE2_8 (.vf 240)))),
  (2656149758, 468, (.tf tapeEvalsE2_246 (.vf 169) (.tf tapeEvalsE2_247 tapeEvalsE2_8 (.vf 239)))),
  (363187214, 469, (.tf tapeEvalsE2_249 (.vf 168) (.tf tapeEvalsE2_250 tapeEvalsE2_8 (.vf 240)))),
  (364187216, 470, (.tf tapeEvalsE2_249 (.vf 169) (.tf tapeEvalsE2_250 tapeEvalsE2_8 (.vf 239)))),
  (1310748687, 471, (.tf tapeEvalsE2_252 tapeEvalsE2_5 (.tf tapeEvalsE2_253 tapeEvalsE2_7 tapeEvalsE2_8))),
  (3313753436, 472, (.tf tapeEvalsE2_255 tapeEvalsE2_5 (.tf tapeEvalsE2_256 tapeEvalsE2_7 tapeEvalsE2_8))),
  (1021790894, 473, (.tf tapeEvalsE2_258 tapeEvalsE2_5 (.tf tapeEvalsE2_259 tapeEvalsE2_7 tapeEvalsE2_8))),
  (940807649, 474, (.tf tapeEvalsE2_252 (.vf 163) (.tf tapeEvalsE2_253 (.vf 167) tapeEvalsE2_8))),
  (2943812398, 475, (.tf tapeEvalsE2_255 (.vf 163) (.tf tapeEvalsE2_256 (.vf 167) tapeEvalsE2_8))),
  (651849856, 476, (.tf tapeEvalsE2_258 (.vf 163) (.tf tapeEvalsE2_259 (.vf 167) tapeEvalsE2_8))),
  (942807655, 477, (.tf tapeEvalsE2_252 (.vf 164) (.tf tapeEvalsE2_253 (.vf 168) tapeEvalsE2_8))),
  (944807661, 478, (.tf tapeEvalsE2_252 (.vf 165) (.tf tapeEvalsE2_253 (.vf 169) tapeEvalsE2_8))),
  (2945812404, 479, (.tf tapeEvalsE2_255 (.vf 164) (.tf tapeEvalsE2_256 (.vf 168) tapeEvalsE2_8))),
  (2947812410, 480, (.tf tapeEvalsE2_255 (.vf 165) (.tf tapeEvalsE2_256 (.vf 169) tapeEvalsE2_8))),
  (653849862, 481, (.tf tapeEvalsE2_258 (.vf 164) (.tf tapeEvalsE2_259 (.vf 168) tapeEvalsE2_8))),
  (655849868, 482, (.tf tapeEvalsE2_258 (.vf 165) (.tf tapeEvalsE2_259 (.vf 169) tapeEvalsE2_8)))]
set_option maxRecDepth 1000000 in
set_option maxHeartbeats 100000000 in
theorem tapeEvalsGood2 : tabGood 100 tapeEvalsNms2 = true := by kernel_rfl
end Go.Proofs.Yticbgaflhiokgaa
