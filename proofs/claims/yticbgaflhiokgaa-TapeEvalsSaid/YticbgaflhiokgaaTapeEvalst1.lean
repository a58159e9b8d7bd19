/-
  'TapeEvals': what names stand for, where the first rest is 1.
-/
import Derived.Test.YticbgaflhiokgaaM3t
namespace Go.Proofs.Yticbgaflhiokgaa
open Go.RowKit Ex
def tapeEvalsE1_0 : E := (.ic .eql (.ai 9 0 (.ci (.at 1 0) (.ci (.li 11) .n0))) (.li 0))
def tapeEvalsE1_1 : E := (.ti tapeEvalsE1_0 (.li 0) (.ai 9 0 (.ci (.ib .quo .i64 (.at 1 0) (.li 4)) (.ci (.li 3) .n0))))
def tapeEvalsE1_2 : E := (.ic .eql tapeEvalsE1_1 (.li 0))
def tapeEvalsE1_3 : E := (.fb .quo (.i2f (.ib .sub .i64 (.ai 9 0 (.ci (.ti (.ic .lss (.li 0) (.vl 3)) (.at 3 0) (.li 0)) (.ci (.li 65) .n0))) (.li 32))) (.lf 4620693217682128896))
def tapeEvalsE1_4 : E := (.ic .eql tapeEvalsE1_1 (.li 1))
def tapeEvalsE1_5 : E := (.fb .quo (.i2f (.ib .sub .i64 (.ai 9 0 (.ci (.ti (.ic .lss (.li 1) (.vl 3)) (.at 3 1) (.li 1)) (.ci (.li 65) .n0))) (.li 32))) (.lf 4620693217682128896))
def tapeEvalsE1_6 : E := (.fb .quo (.i2f (.ib .sub .i64 (.ai 9 0 (.ci (.vi 0) (.ci (.li 17) .n0))) (.li 8))) (.lf 4616189618054758400))
def tapeEvalsE1_7 : E := (.ti tapeEvalsE1_0 (.li 0) (.ai 9 0 (.ci (.ib .quo .i64 (.at 1 0) (.li 40)) (.ci (.li 3) .n0))))
def tapeEvalsE1_8 : E := (.ic .eql tapeEvalsE1_7 (.li 0))
def tapeEvalsE1_9 : E := (.ic .eql tapeEvalsE1_7 (.li 1))
def tapeEvalsE1_10 : E := (.ib .add .i64 (.li 2) (.ai 9 0 (.ci (.at 1 0) (.ci (.li 3) .n0))))
def tapeEvalsE1_11 : E := (.ic .eql tapeEvalsE1_10 (.li 3))
def tapeEvalsE1_12 : E := (.ic .eql tapeEvalsE1_10 (.li 2))
def tapeEvalsE1_13 : E := (.ic .eql (.ai 9 0 (.ci (.at 1 0) (.ci (.li 7) .n0))) (.li 0))
def tapeEvalsE1_14 : E := (.tf tapeEvalsE1_0 (.fb .quo (.i2f (.ib .sub .i64 (.ai 9 0 (.ci (.ib .quo .i64 (.at 1 0) (.li 11)) (.ci (.li 33) .n0))) (.li 16))) (.lf 4620693217682128896)) (.lf 0))
def tapeEvalsE1_15 : E := (.ic .eql (.ai 9 0 (.ci (.at 1 1) (.ci (.li 11) .n0))) (.li 0))
def tapeEvalsE1_16 : E := (.ti tapeEvalsE1_15 (.li 0) (.ai 9 0 (.ci (.ib .quo .i64 (.at 1 1) (.li 4)) (.ci (.li 4) .n0))))
def tapeEvalsE1_17 : E := (.ic .eql tapeEvalsE1_16 (.li 0))
def tapeEvalsE1_18 : E := (.ic .eql tapeEvalsE1_16 (.li 1))
def tapeEvalsE1_19 : E := (.ic .eql tapeEvalsE1_16 (.li 2))
def tapeEvalsE1_20 : E := (.ti tapeEvalsE1_15 (.li 0) (.ai 9 0 (.ci (.ib .quo .i64 (.at 1 1) (.li 40)) (.ci (.li 4) .n0))))
def tapeEvalsE1_21 : E := (.ic .eql tapeEvalsE1_20 (.li 0))
def tapeEvalsE1_22 : E := (.ic .eql tapeEvalsE1_20 (.li 1))
def tapeEvalsE1_23 : E := (.ic .eql tapeEvalsE1_20 (.li 2))
def tapeEvalsE1_24 : E := (.ib .add .i64 (.li 2) (.ai 9 0 (.ci (.at 1 1) (.ci (.li 3) .n0))))
def tapeEvalsE1_25 : E := (.ic .eql tapeEvalsE1_24 (.li 3))
def tapeEvalsE1_26 : E := (.ic .eql tapeEvalsE1_24 (.li 2))
def tapeEvalsE1_27 : E := (.ic .eql (.ai 9 0 (.ci (.at 1 1) (.ci (.li 7) .n0))) (.li 0))
def tapeEvalsE1_28 : E := (.tf tapeEvalsE1_15 (.fb .quo (.i2f (.ib .sub .i64 (.ai 9 0 (.ci (.ib .quo .i64 (.at 1 1) (.li 11)) (.ci (.li 33) .n0))) (.li 16))) (.lf 4620693217682128896)) (.lf 0))
def tapeEvalsE1_29 : E := (.ic .eql (.ai 9 0 (.ci (.at 1 2) (.ci (.li 11) .n0))) (.li 0))
def tapeEvalsE1_30 : E := (.ti tapeEvalsE1_29 (.li 0) (.ai 9 0 (.ci (.ib .quo .i64 (.at 1 2) (.li 4)) (.ci (.li 5) .n0))))
def tapeEvalsE1_31 : E := (.ic .eql tapeEvalsE1_30 (.li 0))
def tapeEvalsE1_32 : E := (.ic .eql tapeEvalsE1_30 (.li 1))
def tapeEvalsE1_33 : E := (.ic .eql tapeEvalsE1_30 (.li 2))
def tapeEvalsE1_34 : E := (.ic .eql tapeEvalsE1_30 (.li 3))
def tapeEvalsE1_35 : E := (.ti tapeEvalsE1_29 (.li 0) (.ai 9 0 (.ci (.ib .quo .i64 (.at 1 2) (.li 40)) (.ci (.li 5) .n0))))
def tapeEvalsE1_36 : E := (.ic .eql tapeEvalsE1_35 (.li 0))
def tapeEvalsE1_37 : E := (.ic .eql tapeEvalsE1_35 (.li 1))
def tapeEvalsE1_38 : E := (.ic .eql tapeEvalsE1_35 (.li 2))
def tapeEvalsE1_39 : E := (.ic .eql tapeEvalsE1_35 (.li 3))
def tapeEvalsE1_40 : E := (.ib .add .i64 (.li 2) (.ai 9 0 (.ci (.at 1 2) (.ci (.li 3) .n0))))
def tapeEvalsE1_41 : E := (.ic .eql tapeEvalsE1_40 (.li 3))
def tapeEvalsE1_42 : E := (.ic .eql tapeEvalsE1_40 (.li 2))
def tapeEvalsE1_43 : E := (.ic .eql (.ai 9 0 (.ci (.at 1 2) (.ci (.li 7) .n0))) (.li 0))
def tapeEvalsE1_44 : E := (.tf tapeEvalsE1_29 (.fb .quo (.i2f (.ib .sub .i64 (.ai 9 0 (.ci (.ib .quo .i64 (.at 1 2) (.li 11)) (.ci (.li 33) .n0))) (.li 16))) (.lf 4620693217682128896)) (.lf 0))
def tapeEvalsE1_45 : E := (.ic .eql (.ai 9 0 (.ci (.at 1 3) (.ci (.li 11) .n0))) (.li 0))
def tapeEvalsE1_46 : E := (.ti tapeEvalsE1_45 (.li 0) (.ai 9 0 (.ci (.ib .quo .i64 (.at 1 3) (.li 4)) (.ci (.li 6) .n0))))
def tapeEvalsE1_47 : E := (.ic .eql tapeEvalsE1_46 (.li 0))
def tapeEvalsE1_48 : E := (.ic .eql tapeEvalsE1_46 (.li 1))
def tapeEvalsE1_49 : E := (.ic .eql tapeEvalsE1_46 (.li 2))
def tapeEvalsE1_50 : E := (.ic .eql tapeEvalsE1_46 (.li 3))
def tapeEvalsE1_51 : E := (.ic .eql tapeEvalsE1_46 (.li 4))
def tapeEvalsE1_52 : E := (.ti tapeEvalsE1_45 (.li 0) (.ai 9 0 (.ci (.ib .quo .i64 (.at 1 3) (.li 40)) (.ci (.li 6) .n0))))
def tapeEvalsE1_53 : E := (.ic .eql tapeEvalsE1_52 (.li 0))
def tapeEvalsE1_54 : E := (.ic .eql tapeEvalsE1_52 (.li 1))
def tapeEvalsE1_55 : E := (.ic .eql tapeEvalsE1_52 (.li 2))
def tapeEvalsE1_56 : E := (.ic .eql tapeEvalsE1_52 (.li 3))
def tapeEvalsE1_57 : E := (.ic .eql tapeEvalsE1_52 (.li 4))
def tapeEvalsE1_58 : E := (.ib .add .i64 (.li 2) (.ai 9 0 (.ci (.at 1 3) (.ci (.li 3) .n0))))
def tapeEvalsE1_59 : E := (.ic .eql tapeEvalsE1_58 (.li 3))
def tapeEvalsE1_60 : E := (.ic .eql tapeEvalsE1_58 (.li 2))
def tapeEvalsE1_61 : E := (.ic .eql (.ai 9 0 (.ci (.at 1 3) (.ci (.li 7) .n0))) (.li 0))
def tapeEvalsE1_62 : E := (.tf tapeEvalsE1_45 (.fb .quo (.i2f (.ib .sub .i64 (.ai 9 0 (.ci (.ib .quo .i64 (.at 1 3) (.li 11)) (.ci (.li 33) .n0))) (.li 16))) (.lf 4620693217682128896)) (.lf 0))
def tapeEvalsE1_63 : E := (.ic .eql (.ai 9 0 (.ci (.at 1 4) (.ci (.li 11) .n0))) (.li 0))
def tapeEvalsE1_64 : E := (.ti tapeEvalsE1_63 (.li 0) (.ai 9 0 (.ci (.ib .quo .i64 (.at 1 4) (.li 4)) (.ci (.li 7) .n0))))
def tapeEvalsE1_65 : E := (.ic .eql tapeEvalsE1_64 (.li 0))
def tapeEvalsE1_66 : E := (.ic .eql tapeEvalsE1_64 (.li 1))
def tapeEvalsE1_67 : E := (.ic .eql tapeEvalsE1_64 (.li 2))
def tapeEvalsE1_68 : E := (.ic .eql tapeEvalsE1_64 (.li 3))
def tapeEvalsE1_69 : E := (.ic .eql tapeEvalsE1_64 (.li 4))
def tapeEvalsE1_70 : E := (.ic .eql tapeEvalsE1_64 (.li 5))
def tapeEvalsE1_71 : E := (.ti tapeEvalsE1_63 (.li 0) (.ai 9 0 (.ci (.ib .quo .i64 (.at 1 4) (.li 40)) (.ci (.li 7) .n0))))
def tapeEvalsE1_72 : E := (.ic .eql tapeEvalsE1_71 (.li 0))
def tapeEvalsE1_73 : E := (.ic .eql tapeEvalsE1_71 (.li 1))
def tapeEvalsE1_74 : E := (.ic .eql tapeEvalsE1_71 (.li 2))
def tapeEvalsE1_75 : E := (.ic .eql tapeEvalsE1_71 (.li 3))
def tapeEvalsE1_76 : E := (.ic .eql tapeEvalsE1_71 (.li 4))
def tapeEvalsE1_77 : E := (.ic .eql tapeEvalsE1_71 (.li 5))
def tapeEvalsE1_78 : E := (.ib .add .i64 (.li 2) (.ai 9 0 (.ci (.at 1 4) (.ci (.li 3) .n0))))
def tapeEvalsE1_79 : E := (.ic .eql tapeEvalsE1_78 (.li 3))
def tapeEvalsE1_80 : E := (.ic .eql tapeEvalsE1_78 (.li 2))
def tapeEvalsE1_81 : E := (.ic .eql (.ai 9 0 (.ci (.at 1 4) (.ci (.li 7) .n0))) (.li 0))
def tapeEvalsE1_82 : E := (.tf tapeEvalsE1_63 (.fb .quo (.i2f (.ib .sub .i64 (.ai 9 0 (.ci (.ib .quo .i64 (.at 1 4) (.li 11)) (.ci (.li 33) .n0))) (.li 16))) (.lf 4620693217682128896)) (.lf 0))
def tapeEvalsE1_83 : E := (.ic .eql (.ai 9 0 (.ci (.at 1 5) (.ci (.li 11) .n0))) (.li 0))
def tapeEvalsE1_84 : E := (.ti tapeEvalsE1_83 (.li 0) (.ai 9 0 (.ci (.ib .quo .i64 (.at 1 5) (.li 4)) (.ci (.li 8) .n0))))
def tapeEvalsE1_85 : E := (.ic .eql tapeEvalsE1_84 (.li 0))
def tapeEvalsE1_86 : E := (.ic .eql tapeEvalsE1_84 (.li 1))
def tapeEvalsE1_87 : E := (.ic .eql tapeEvalsE1_84 (.li 2))
def tapeEvalsE1_88 : E := (.ic .eql tapeEvalsE1_84 (.li 3))
def tapeEvalsE1_89 : E := (.ic .eql tapeEvalsE1_84 (.li 4))
def tapeEvalsE1_90 : E := (.ic .eql tapeEvalsE1_84 (.li 5))
def tapeEvalsE1_91 : E := (.ic .eql tapeEvalsE1_84 (.li 6))
def tapeEvalsE1_92 : E := (.ti tapeEvalsE1_83 (.li 0) (.ai 9 0 (.ci (.ib .quo .i64 (.at 1 5) (.li 40)) (.ci (.li 8) .n0))))
def tapeEvalsE1_93 : E := (.ic .eql tapeEvalsE1_92 (.li 0))
def tapeEvalsE1_94 : E := (.ic .eql tapeEvalsE1_92 (.li 1))
def tapeEvalsE1_95 : E := (.ic .eql tapeEvalsE1_92 (.li 2))
def tapeEvalsE1_96 : E := (.ic .eql tapeEvalsE1_92 (.li 3))
def tapeEvalsE1_97 : E := (.ic .eql tapeEvalsE1_92 (.li 4))
def tapeEvalsE1_98 : E := (.ic .eql tapeEvalsE1_92 (.li 5))
def tapeEvalsE1_99 : E := (.ic .eql tapeEvalsE1_92 (.li 6))
def tapeEvalsE1_100 : E := (.ib .add .i64 (.li 2) (.ai 9 0 (.ci (.at 1 5) (.ci (.li 3) .n0))))
def tapeEvalsE1_101 : E := (.ic .eql tapeEvalsE1_100 (.li 3))
def tapeEvalsE1_102 : E := (.ic .eql tapeEvalsE1_100 (.li 2))
def tapeEvalsE1_103 : E := (.ic .eql (.ai 9 0 (.ci (.at 1 5) (.ci (.li 7) .n0))) (.li 0))
def tapeEvalsE1_104 : E := (.tf tapeEvalsE1_83 (.fb .quo (.i2f (.ib .sub .i64 (.ai 9 0 (.ci (.ib .quo .i64 (.at 1 5) (.li 11)) (.ci (.li 33) .n0))) (.li 16))) (.lf 4620693217682128896)) (.lf 0))
def tapeEvalsE1_105 : E := (.ic .eql (.ai 9 0 (.ci (.at 1 6) (.ci (.li 11) .n0))) (.li 0))
def tapeEvalsE1_106 : E := (.ti tapeEvalsE1_105 (.li 0) (.ai 9 0 (.ci (.ib .quo .i64 (.at 1 6) (.li 4)) (.ci (.li 9) .n0))))
def tapeEvalsE1_107 : E := (.ic .eql tapeEvalsE1_106 (.li 0))
def tapeEvalsE1_108 : E := (.ic .eql tapeEvalsE1_106 (.li 1))
def tapeEvalsE1_109 : E := (.ic .eql tapeEvalsE1_106 (.li 2))
def tapeEvalsE1_110 : E := (.ic .eql tapeEvalsE1_106 (.li 3))
def tapeEvalsE1_111 : E := (.ic .eql tapeEvalsE1_106 (.li 4))
def tapeEvalsE1_112 : E := (.ic .eql tapeEvalsE1_106 (.li 5))
def tapeEvalsE1_113 : E := (.ic .eql tapeEvalsE1_106 (.li 6))
def tapeEvalsE1_114 : E := (.ic .eql tapeEvalsE1_106 (.li 7))
def tapeEvalsE1_115 : E := (.ti tapeEvalsE1_105 (.li 0) (.ai 9 0 (.ci (.ib .quo .i64 (.at 1 6) (.li 40)) (.ci (.li 9) .n0))))
def tapeEvalsE1_116 : E := (.ic .eql tapeEvalsE1_115 (.li 0))
def tapeEvalsE1_117 : E := (.ic .eql tapeEvalsE1_115 (.li 1))
def tapeEvalsE1_118 : E := (.ic .eql tapeEvalsE1_115 (.li 2))
def tapeEvalsE1_119 : E := (.ic .eql tapeEvalsE1_115 (.li 3))
def tapeEvalsE1_120 : E := (.ic .eql tapeEvalsE1_115 (.li 4))
def tapeEvalsE1_121 : E := (.ic .eql tapeEvalsE1_115 (.li 5))
def tapeEvalsE1_122 : E := (.ic .eql tapeEvalsE1_115 (.li 6))
def tapeEvalsE1_123 : E := (.ic .eql tapeEvalsE1_115 (.li 7))
def tapeEvalsE1_124 : E := (.ib .add .i64 (.li 2) (.ai 9 0 (.ci (.at 1 6) (.ci (.li 3) .n0))))
def tapeEvalsE1_125 : E := (.ic .eql tapeEvalsE1_124 (.li 3))
def tapeEvalsE1_126 : E := (.ic .eql tapeEvalsE1_124 (.li 2))
def tapeEvalsE1_127 : E := (.ic .eql (.ai 9 0 (.ci (.at 1 6) (.ci (.li 7) .n0))) (.li 0))
def tapeEvalsE1_128 : E := (.tf tapeEvalsE1_105 (.fb .quo (.i2f (.ib .sub .i64 (.ai 9 0 (.ci (.ib .quo .i64 (.at 1 6) (.li 11)) (.ci (.li 33) .n0))) (.li 16))) (.lf 4620693217682128896)) (.lf 0))
def tapeEvalsE1_129 : E := (.ic .eql (.ai 9 0 (.ci (.at 1 7) (.ci (.li 11) .n0))) (.li 0))
def tapeEvalsE1_130 : E := (.ti tapeEvalsE1_129 (.li 0) (.ai 9 0 (.ci (.ib .quo .i64 (.at 1 7) (.li 4)) (.ci (.li 10) .n0))))
def tapeEvalsE1_131 : E := (.ic .eql tapeEvalsE1_130 (.li 0))
def tapeEvalsE1_132 : E := (.ic .eql tapeEvalsE1_130 (.li 1))
def tapeEvalsE1_133 : E := (.ic .eql tapeEvalsE1_130 (.li 2))
def tapeEvalsE1_134 : E := (.ic .eql tapeEvalsE1_130 (.li 3))
def tapeEvalsE1_135 : E := (.ic .eql tapeEvalsE1_130 (.li 4))
def tapeEvalsE1_136 : E := (.ic .eql tapeEvalsE1_130 (.li 5))
def tapeEvalsE1_137 : E := (.ic .eql tapeEvalsE1_130 (.li 6))
def tapeEvalsE1_138 : E := (.ic .eql tapeEvalsE1_130 (.li 7))
def tapeEvalsE1_139 : E := (.ic .eql tapeEvalsE1_130 (.li 8))
def tapeEvalsE1_140 : E := (.ti tapeEvalsE1_129 (.li 0) (.ai 9 0 (.ci (.ib .quo .i64 (.at 1 7) (.li 40)) (.ci (.li 10) .n0))))
def tapeEvalsE1_141 : E := (.ic .eql tapeEvalsE1_140 (.li 0))
def tapeEvalsE1_142 : E := (.ic .eql tapeEvalsE1_140 (.li 1))
def tapeEvalsE1_143 : E := (.ic .eql tapeEvalsE1_140 (.li 2))
def tapeEvalsE1_144 : E := (.ic .eql tapeEvalsE1_140 (.li 3))
def tapeEvalsE1_145 : E := (.ic .eql tapeEvalsE1_140 (.li 4))
def tapeEvalsE1_146 : E := (.ic .eql tapeEvalsE1_140 (.li 5))
def tapeEvalsE1_147 : E := (.ic .eql tapeEvalsE1_140 (.li 6))
def tapeEvalsE1_148 : E := (.ic .eql tapeEvalsE1_140 (.li 7))
def tapeEvalsE1_149 : E := (.ic .eql tapeEvalsE1_140 (.li 8))
def tapeEvalsE1_150 : E := (.ib .add .i64 (.li 2) (.ai 9 0 (.ci (.at 1 7) (.ci (.li 3) .n0))))
def tapeEvalsE1_151 : E := (.ic .eql tapeEvalsE1_150 (.li 3))
def tapeEvalsE1_152 : E := (.ic .eql tapeEvalsE1_150 (.li 2))
def tapeEvalsE1_153 : E := (.ic .eql (.ai 9 0 (.ci (.at 1 7) (.ci (.li 7) .n0))) (.li 0))
def tapeEvalsE1_154 : E := (.tf tapeEvalsE1_129 (.fb .quo (.i2f (.ib .sub .i64 (.ai 9 0 (.ci (.ib .quo .i64 (.at 1 7) (.li 11)) (.ci (.li 33) .n0))) (.li 16))) (.lf 4620693217682128896)) (.lf 0))
def tapeEvalsE1_155 : E := (.ib .quo .i64 (.vi 0) (.li 3))
def tapeEvalsE1_156 : E := (.ai 9 0 (.ci (.ib .add .i64 tapeEvalsE1_155 (.li 0)) (.ci (.li 3) .n0)))
def tapeEvalsE1_157 : E := (.ib .sub .i64 (.ib .sub .i64 (.li 10) tapeEvalsE1_156) (.li 8))
def tapeEvalsE1_158 : E := (.ic .eql tapeEvalsE1_157 (.li 0))
def tapeEvalsE1_159 : E := (.ic .eql tapeEvalsE1_157 (.li 1))
def tapeEvalsE1_160 : E := (.ai 9 0 (.ci (.ib .add .i64 tapeEvalsE1_155 (.li 1)) (.ci (.li 3) .n0)))
def tapeEvalsE1_161 : E := (.ib .sub .i64 (.ib .sub .i64 (.li 10) tapeEvalsE1_160) (.li 8))
def tapeEvalsE1_162 : E := (.ic .eql tapeEvalsE1_161 (.li 0))
def tapeEvalsE1_163 : E := (.ic .eql tapeEvalsE1_161 (.li 1))
def tapeEvalsE1_164 : E := (.ic .lss (.li 0) (.vl 4))
def tapeEvalsE1_165 : E := (.ic .lss (.li 1) (.vl 4))
def tapeEvalsE1_166 : E := (.ib .sub .i64 (.ib .sub .i64 (.li 9) tapeEvalsE1_156) (.li 7))
def tapeEvalsE1_167 : E := (.ic .eql tapeEvalsE1_166 (.li 0))
def tapeEvalsE1_168 : E := (.ic .eql tapeEvalsE1_166 (.li 1))
def tapeEvalsE1_169 : E := (.ib .sub .i64 (.ib .sub .i64 (.li 9) tapeEvalsE1_160) (.li 7))
def tapeEvalsE1_170 : E := (.ic .eql tapeEvalsE1_169 (.li 0))
def tapeEvalsE1_171 : E := (.ic .eql tapeEvalsE1_169 (.li 1))
def tapeEvalsE1_172 : E := (.ib .sub .i64 (.ib .sub .i64 (.li 8) tapeEvalsE1_156) (.li 6))
def tapeEvalsE1_173 : E := (.ic .eql tapeEvalsE1_172 (.li 0))
def tapeEvalsE1_174 : E := (.ic .eql tapeEvalsE1_172 (.li 1))
def tapeEvalsE1_175 : E := (.ib .sub .i64 (.ib .sub .i64 (.li 8) tapeEvalsE1_160) (.li 6))
def tapeEvalsE1_176 : E := (.ic .eql tapeEvalsE1_175 (.li 0))
def tapeEvalsE1_177 : E := (.ic .eql tapeEvalsE1_175 (.li 1))
def tapeEvalsE1_178 : E := (.ib .sub .i64 (.ib .sub .i64 (.li 7) tapeEvalsE1_156) (.li 5))
def tapeEvalsE1_179 : E := (.ic .eql tapeEvalsE1_178 (.li 0))
def tapeEvalsE1_180 : E := (.ic .eql tapeEvalsE1_178 (.li 1))
def tapeEvalsE1_181 : E := (.ib .sub .i64 (.ib .sub .i64 (.li 7) tapeEvalsE1_160) (.li 5))
def tapeEvalsE1_182 : E := (.ic .eql tapeEvalsE1_181 (.li 0))
def tapeEvalsE1_183 : E := (.ic .eql tapeEvalsE1_181 (.li 1))
def tapeEvalsE1_184 : E := (.ib .sub .i64 (.ib .sub .i64 (.li 6) tapeEvalsE1_156) (.li 4))
def tapeEvalsE1_185 : E := (.ic .eql tapeEvalsE1_184 (.li 0))
def tapeEvalsE1_186 : E := (.ic .eql tapeEvalsE1_184 (.li 1))
def tapeEvalsE1_187 : E := (.ib .sub .i64 (.ib .sub .i64 (.li 6) tapeEvalsE1_160) (.li 4))
def tapeEvalsE1_188 : E := (.ic .eql tapeEvalsE1_187 (.li 0))
def tapeEvalsE1_189 : E := (.ic .eql tapeEvalsE1_187 (.li 1))
def tapeEvalsE1_190 : E := (.ib .sub .i64 (.ib .sub .i64 (.li 5) tapeEvalsE1_156) (.li 3))
def tapeEvalsE1_191 : E := (.ic .eql tapeEvalsE1_190 (.li 0))
def tapeEvalsE1_192 : E := (.ic .eql tapeEvalsE1_190 (.li 1))
def tapeEvalsE1_193 : E := (.ib .sub .i64 (.ib .sub .i64 (.li 5) tapeEvalsE1_160) (.li 3))
def tapeEvalsE1_194 : E := (.ic .eql tapeEvalsE1_193 (.li 0))
def tapeEvalsE1_195 : E := (.ic .eql tapeEvalsE1_193 (.li 1))
def tapeEvalsE1_196 : E := (.ib .sub .i64 (.ib .sub .i64 (.li 4) tapeEvalsE1_156) (.li 2))
def tapeEvalsE1_197 : E := (.ic .eql tapeEvalsE1_196 (.li 0))
def tapeEvalsE1_198 : E := (.ic .eql tapeEvalsE1_196 (.li 1))
def tapeEvalsE1_199 : E := (.ib .sub .i64 (.ib .sub .i64 (.li 4) tapeEvalsE1_160) (.li 2))
def tapeEvalsE1_200 : E := (.ic .eql tapeEvalsE1_199 (.li 0))
def tapeEvalsE1_201 : E := (.ic .eql tapeEvalsE1_199 (.li 1))
def tapeEvalsE1_202 : E := (.ib .sub .i64 (.ib .sub .i64 (.li 3) tapeEvalsE1_156) (.li 1))
def tapeEvalsE1_203 : E := (.ic .eql tapeEvalsE1_202 (.li 0))
def tapeEvalsE1_204 : E := (.ic .eql tapeEvalsE1_202 (.li 1))
def tapeEvalsE1_205 : E := (.ib .sub .i64 (.ib .sub .i64 (.li 3) tapeEvalsE1_160) (.li 1))
def tapeEvalsE1_206 : E := (.ic .eql tapeEvalsE1_205 (.li 0))
def tapeEvalsE1_207 : E := (.ic .eql tapeEvalsE1_205 (.li 1))
def tapeEvalsE1_208 : E := (.ib .sub .i64 (.li 2) tapeEvalsE1_156)
def tapeEvalsE1_209 : E := (.ic .eql tapeEvalsE1_208 (.li 0))
def tapeEvalsE1_210 : E := (.ic .eql tapeEvalsE1_208 (.li 1))
def tapeEvalsE1_211 : E := (.ib .sub .i64 (.li 2) tapeEvalsE1_160)
def tapeEvalsE1_212 : E := (.ic .eql tapeEvalsE1_211 (.li 0))
def tapeEvalsE1_213 : E := (.ic .eql tapeEvalsE1_211 (.li 1))
def tapeEvalsNms1 : Nms := [(2631736761, 100, (.tf tapeEvalsE1_2 tapeEvalsE1_3 (.tf tapeEvalsE1_4 tapeEvalsE1_5 tapeEvalsE1_6))),
  (1719569143, 101, (.tf tapeEvalsE1_8 tapeEvalsE1_3 (.tf tapeEvalsE1_9 tapeEvalsE1_5 tapeEvalsE1_6))),
  (635087908, 102, (.tf tapeEvalsE1_11 (.fb .sub (.vf 100) (.vf 101)) (.fb .mul (.vf 100) (.vf 101)))),
  (4003206554, 103, (.tf tapeEvalsE1_12 (.fb .add (.vf 100) (.vf 101)) (.vf 102))),
  (3999772632, 104, (.tf tapeEvalsE1_13 (.fb .quo (.vf 100) (.vf 101)) (.vf 103))),
  (1218405719, 105, (.tf tapeEvalsE1_0 tapeEvalsE1_14 (.tf (.vb 2) (.vf 104) (.vf 103)))),
  (3399051379, 106, (.tf tapeEvalsE1_17 tapeEvalsE1_3 (.tf tapeEvalsE1_18 tapeEvalsE1_5 (.tf tapeEvalsE1_19 tapeEvalsE1_6 (.vf 105))))),
  (2030799952, 107, (.tf tapeEvalsE1_21 tapeEvalsE1_3 (.tf tapeEvalsE1_22 tapeEvalsE1_5 (.tf tapeEvalsE1_23 tapeEvalsE1_6 (.vf 105))))),
  (1263623538, 108, (.tf tapeEvalsE1_25 (.fb .sub (.vf 106) (.vf 107)) (.fb .mul (.vf 106) (.vf 107)))),
  (330774875, 109, (.tf tapeEvalsE1_26 (.fb .add (.vf 106) (.vf 107)) (.vf 108))),
  (327340953, 110, (.tf tapeEvalsE1_27 (.fb .quo (.vf 106) (.vf 107)) (.vf 109))),
  (533076572, 111, (.tf tapeEvalsE1_15 tapeEvalsE1_28 (.tf (.vb 2) (.vf 110) (.vf 109)))),
  (2351484686, 112, (.tf tapeEvalsE1_31 tapeEvalsE1_3 (.tf tapeEvalsE1_32 tapeEvalsE1_5 (.tf tapeEvalsE1_33 tapeEvalsE1_6 (.tf tapeEvalsE1_34 (.vf 105) (.vf 111)))))),
  (527149450, 113, (.tf tapeEvalsE1_36 tapeEvalsE1_3 (.tf tapeEvalsE1_37 tapeEvalsE1_5 (.tf tapeEvalsE1_38 tapeEvalsE1_6 (.tf tapeEvalsE1_39 (.vf 105) (.vf 111)))))),
  (1892159168, 114, (.tf tapeEvalsE1_41 (.fb .sub (.vf 112) (.vf 113)) (.fb .mul (.vf 112) (.vf 113)))),
  (953310487, 115, (.tf tapeEvalsE1_42 (.fb .add (.vf 112) (.vf 113)) (.vf 114))),
  (949876565, 116, (.tf tapeEvalsE1_43 (.fb .quo (.vf 112) (.vf 113)) (.vf 115))),
  (4142714716, 117, (.tf tapeEvalsE1_29 tapeEvalsE1_44 (.tf (.vb 2) (.vf 116) (.vf 115)))),
  (3153031300, 118, (.tf tapeEvalsE1_47 tapeEvalsE1_3 (.tf tapeEvalsE1_48 tapeEvalsE1_5 (.tf tapeEvalsE1_49 tapeEvalsE1_6 (.tf tapeEvalsE1_50 (.vf 105) (.tf tapeEvalsE1_51 (.vf 111) (.vf 117))))))),
  (872612255, 119, (.tf tapeEvalsE1_53 tapeEvalsE1_3 (.tf tapeEvalsE1_54 tapeEvalsE1_5 (.tf tapeEvalsE1_55 tapeEvalsE1_6 (.tf tapeEvalsE1_56 (.vf 105) (.tf tapeEvalsE1_57 (.vf 111) (.vf 117))))))),
  (2520694798, 120, (.tf tapeEvalsE1_59 (.fb .sub (.vf 118) (.vf 119)) (.fb .mul (.vf 118) (.vf 119)))),
  (1575846099, 121, (.tf tapeEvalsE1_60 (.fb .add (.vf 118) (.vf 119)) (.vf 120))),
  (1572412177, 122, (.tf tapeEvalsE1_61 (.fb .quo (.vf 118) (.vf 119)) (.vf 121))),
  (3457385569, 123, (.tf tapeEvalsE1_45 tapeEvalsE1_62 (.tf (.vb 2) (.vf 122) (.vf 121)))),
  (1508723930, 124, (.tf tapeEvalsE1_65 tapeEvalsE1_3 (.tf tapeEvalsE1_66 tapeEvalsE1_5 (.tf tapeEvalsE1_67 tapeEvalsE1_6 (.tf tapeEvalsE1_68 (.vf 105) (.tf tapeEvalsE1_69 (.vf 111) (.tf tapeEvalsE1_70 (.vf 117) (.vf 123)))))))),
  (3067188367, 125, (.tf tapeEvalsE1_72 tapeEvalsE1_3 (.tf tapeEvalsE1_73 tapeEvalsE1_5 (.tf tapeEvalsE1_74 tapeEvalsE1_6 (.tf tapeEvalsE1_75 (.vf 105) (.tf tapeEvalsE1_76 (.vf 111) (.tf tapeEvalsE1_77 (.vf 117) (.vf 123)))))))),
  (3149230428, 126, (.tf tapeEvalsE1_79 (.fb .sub (.vf 124) (.vf 125)) (.fb .mul (.vf 124) (.vf 125)))),
  (2198381711, 127, (.tf tapeEvalsE1_80 (.fb .add (.vf 124) (.vf 125)) (.vf 126))),
  (2194947789, 128, (.tf tapeEvalsE1_81 (.fb .quo (.vf 124) (.vf 125)) (.vf 127))),
  (2772056422, 129, (.tf tapeEvalsE1_63 tapeEvalsE1_82 (.tf (.vb 2) (.vf 128) (.vf 127)))),
  (1713529867, 130, (.tf tapeEvalsE1_85 tapeEvalsE1_3 (.tf tapeEvalsE1_86 tapeEvalsE1_5 (.tf tapeEvalsE1_87 tapeEvalsE1_6 (.tf tapeEvalsE1_88 (.vf 105) (.tf tapeEvalsE1_89 (.vf 111) (.tf tapeEvalsE1_90 (.vf 117) (.tf tapeEvalsE1_91 (.vf 123) (.vf 129))))))))),
  (2815910495, 131, (.tf tapeEvalsE1_93 tapeEvalsE1_3 (.tf tapeEvalsE1_94 tapeEvalsE1_5 (.tf tapeEvalsE1_95 tapeEvalsE1_6 (.tf tapeEvalsE1_96 (.vf 105) (.tf tapeEvalsE1_97 (.vf 111) (.tf tapeEvalsE1_98 (.vf 117) (.tf tapeEvalsE1_99 (.vf 123) (.vf 129))))))))),
  (3777766058, 132, (.tf tapeEvalsE1_101 (.fb .sub (.vf 130) (.vf 131)) (.fb .mul (.vf 130) (.vf 131)))),
  (2820917323, 133, (.tf tapeEvalsE1_102 (.fb .add (.vf 130) (.vf 131)) (.vf 132))),
  (2817483401, 134, (.tf tapeEvalsE1_103 (.fb .quo (.vf 130) (.vf 131)) (.vf 133))),
  (2086727275, 135, (.tf tapeEvalsE1_83 tapeEvalsE1_104 (.tf (.vb 2) (.vf 134) (.vf 133)))),
  (3767449111, 136, (.tf tapeEvalsE1_107 tapeEvalsE1_3 (.tf tapeEvalsE1_108 tapeEvalsE1_5 (.tf tapeEvalsE1_109 tapeEvalsE1_6 (.tf tapeEvalsE1_110 (.vf 105) (.tf tapeEvalsE1_111 (.vf 111) (.tf tapeEvalsE1_112 (.vf 117) (.tf tapeEvalsE1_113 (.vf 123) (.tf tapeEvalsE1_114 (.vf 129) (.vf 135)))))))))),
  (118778639, 137, (.tf tapeEvalsE1_116 tapeEvalsE1_3 (.tf tapeEvalsE1_117 tapeEvalsE1_5 (.tf tapeEvalsE1_118 tapeEvalsE1_6 (.tf tapeEvalsE1_119 (.vf 105) (.tf tapeEvalsE1_120 (.vf 111) (.tf tapeEvalsE1_121 (.vf 117) (.tf tapeEvalsE1_122 (.vf 123) (.tf tapeEvalsE1_123 (.vf 129) (.vf 135)))))))))),
  (111334397, 138, (.tf tapeEvalsE1_125 (.fb .sub (.vf 136) (.vf 137)) (.fb .mul (.vf 136) (.vf 137)))),
  (3443452935, 139, (.tf tapeEvalsE1_126 (.fb .add (.vf 136) (.vf 137)) (.vf 138))),
  (3440019013, 140, (.tf tapeEvalsE1_127 (.fb .quo (.vf 136) (.vf 137)) (.vf 139))),
  (1401398128, 141, (.tf tapeEvalsE1_105 tapeEvalsE1_128 (.tf (.vb 2) (.vf 140) (.vf 139)))),
  (3375514371, 142, (.tf tapeEvalsE1_131 tapeEvalsE1_3 (.tf tapeEvalsE1_132 tapeEvalsE1_5 (.tf tapeEvalsE1_133 tapeEvalsE1_6 (.tf tapeEvalsE1_134 (.vf 105) (.tf tapeEvalsE1_135 (.vf 111) (.tf tapeEvalsE1_136 (.vf 117) (.tf tapeEvalsE1_137 (.vf 123) (.tf tapeEvalsE1_138 (.vf 129) (.tf tapeEvalsE1_139 (.vf 135) (.vf 141))))))))))),
  (3565727381, 143, (.tf tapeEvalsE1_141 tapeEvalsE1_3 (.tf tapeEvalsE1_142 tapeEvalsE1_5 (.tf tapeEvalsE1_143 tapeEvalsE1_6 (.tf tapeEvalsE1_144 (.vf 105) (.tf tapeEvalsE1_145 (.vf 111) (.tf tapeEvalsE1_146 (.vf 117) (.tf tapeEvalsE1_147 (.vf 123) (.tf tapeEvalsE1_148 (.vf 129) (.tf tapeEvalsE1_149 (.vf 135) (.vf 141))))))))))),
  (739870027, 144, (.tf tapeEvalsE1_151 (.fb .sub (.vf 142) (.vf 143)) (.fb .mul (.vf 142) (.vf 143)))),
  (4065988547, 145, (.tf tapeEvalsE1_152 (.fb .add (.vf 142) (.vf 143)) (.vf 144))),
  (4062554625, 146, (.tf tapeEvalsE1_153 (.fb .quo (.vf 142) (.vf 143)) (.vf 145))),
  (716068981, 147, (.tf tapeEvalsE1_129 tapeEvalsE1_154 (.tf (.vb 2) (.vf 146) (.vf 145)))),
  (2334993370, 148, (.tf tapeEvalsE1_158 (.vf 135) (.tf tapeEvalsE1_159 (.vf 141) (.vf 147)))),
  (43030828, 149, (.tf tapeEvalsE1_162 (.vf 135) (.tf tapeEvalsE1_163 (.vf 141) (.vf 147)))),
  (3385690025, 150, (.tf tapeEvalsE1_15 tapeEvalsE1_28 (.tf tapeEvalsE1_0 tapeEvalsE1_14 tapeEvalsE1_6))),
  (2109842646, 151, (.tf tapeEvalsE1_29 tapeEvalsE1_44 (.vf 150))),
  (1418513476, 152, (.tf tapeEvalsE1_45 tapeEvalsE1_62 (.vf 151))),
  (727184306, 153, (.tf tapeEvalsE1_63 tapeEvalsE1_82 (.vf 152))),
  (35855136, 154, (.tf tapeEvalsE1_83 tapeEvalsE1_104 (.vf 153))),
  (3639493257, 155, (.tf tapeEvalsE1_105 tapeEvalsE1_128 (.vf 154))),
  (2948164087, 156, (.tf tapeEvalsE1_129 tapeEvalsE1_154 (.vf 155))),
  (3374369074, 157, (.tf (.ic .eql (.ai 9 0 (.ci (.at 4 0) (.ci (.li 5) .n0))) (.li 0)) (.af 31 0 (.ci (.at 4 0) .n0)) tapeEvalsE1_3)),
  (1062026108, 158, (.tf tapeEvalsE1_164 (.vf 157) tapeEvalsE1_3)),
  (3856356760, 159, (.af 30 0 (.ci (.ib .add .i64 (.vi 5) (.li 0)) (.ci (.vi 6) (.ci (.ti tapeEvalsE1_164 (.at 4 0) (.li 3)) .n0))))),
  (3857356763, 160, (.af 30 1 (.ci (.ib .add .i64 (.vi 5) (.li 0)) (.ci (.vi 6) (.ci (.ti tapeEvalsE1_164 (.at 4 0) (.li 3)) .n0))))),
  (1617465874, 161, (.tf (.ic .eql (.ai 9 0 (.ci (.at 4 1) (.ci (.li 5) .n0))) (.li 0)) (.af 31 0 (.ci (.at 4 1) .n0)) tapeEvalsE1_5)),
  (2876780609, 162, (.tf tapeEvalsE1_165 (.vf 161) tapeEvalsE1_5)),
  (141692803, 163, (.af 30 0 (.ci (.ib .add .i64 (.vi 5) (.li 1)) (.ci (.vi 6) (.ci (.ti tapeEvalsE1_165 (.at 4 1) (.li 3)) .n0))))),
  (142692806, 164, (.af 30 1 (.ci (.ib .add .i64 (.vi 5) (.li 1)) (.ci (.vi 6) (.ci (.ti tapeEvalsE1_165 (.at 4 1) (.li 3)) .n0))))),
  (3075187183, 165, (.tf tapeEvalsE1_2 (.vf 158) (.tf tapeEvalsE1_4 (.vf 162) tapeEvalsE1_6))),
  (2163019565, 166, (.tf tapeEvalsE1_8 (.vf 158) (.tf tapeEvalsE1_9 (.vf 162) tapeEvalsE1_6))),
  (1120106954, 167, (.tf tapeEvalsE1_11 (.fb .sub (.vf 165) (.vf 166)) (.fb .mul (.vf 165) (.vf 166)))),
  (128258114, 168, (.tf tapeEvalsE1_12 (.fb .add (.vf 165) (.vf 166)) (.vf 167))),
  (124824192, 169, (.tf tapeEvalsE1_13 (.fb .quo (.vf 165) (.vf 166)) (.vf 168))),
  (1283405979, 170, (.tf tapeEvalsE1_0 tapeEvalsE1_14 (.tf (.vb 2) (.vf 169) (.vf 168)))),
  (3842501866, 171, (.tf tapeEvalsE1_17 (.vf 158) (.tf tapeEvalsE1_18 (.vf 162) (.tf tapeEvalsE1_19 tapeEvalsE1_6 (.vf 170))))),
  (2474250439, 172, (.tf tapeEvalsE1_21 (.vf 158) (.tf tapeEvalsE1_22 (.vf 162) (.tf tapeEvalsE1_23 tapeEvalsE1_6 (.vf 170))))),
  (1748642584, 173, (.tf tapeEvalsE1_25 (.fb .sub (.vf 171) (.vf 172)) (.fb .mul (.vf 171) (.vf 172)))),
  (750793726, 174, (.tf tapeEvalsE1_26 (.fb .add (.vf 171) (.vf 172)) (.vf 173))),
  (747359804, 175, (.tf tapeEvalsE1_27 (.fb .quo (.vf 171) (.vf 172)) (.vf 174))),
  (598076832, 176, (.tf tapeEvalsE1_15 tapeEvalsE1_28 (.tf (.vb 2) (.vf 175) (.vf 174)))),
  (2859935368, 177, (.tf tapeEvalsE1_31 (.vf 158) (.tf tapeEvalsE1_32 (.vf 162) (.tf tapeEvalsE1_33 tapeEvalsE1_6 (.tf tapeEvalsE1_34 (.vf 170) (.vf 176)))))),
  (1035600132, 178, (.tf tapeEvalsE1_36 (.vf 158) (.tf tapeEvalsE1_37 (.vf 162) (.tf tapeEvalsE1_38 tapeEvalsE1_6 (.tf tapeEvalsE1_39 (.vf 170) (.vf 176)))))),
  (2377178214, 179, (.tf tapeEvalsE1_41 (.fb .sub (.vf 177) (.vf 178)) (.fb .mul (.vf 177) (.vf 178)))),
  (1373329338, 180, (.tf tapeEvalsE1_42 (.fb .add (.vf 177) (.vf 178)) (.vf 179))),
  (1369895416, 181, (.tf tapeEvalsE1_43 (.fb .quo (.vf 177) (.vf 178)) (.vf 180))),
  (4207714976, 182, (.tf tapeEvalsE1_29 tapeEvalsE1_44 (.tf (.vb 2) (.vf 181) (.vf 180)))),
  (3726482177, 183, (.tf tapeEvalsE1_47 (.vf 158) (.tf tapeEvalsE1_48 (.vf 162) (.tf tapeEvalsE1_49 tapeEvalsE1_6 (.tf tapeEvalsE1_50 (.vf 170) (.tf tapeEvalsE1_51 (.vf 176) (.vf 182))))))),
  (1446063132, 184, (.tf tapeEvalsE1_53 (.vf 158) (.tf tapeEvalsE1_54 (.vf 162) (.tf tapeEvalsE1_55 tapeEvalsE1_6 (.tf tapeEvalsE1_56 (.vf 170) (.tf tapeEvalsE1_57 (.vf 176) (.vf 182))))))),
  (3005713844, 185, (.tf tapeEvalsE1_59 (.fb .sub (.vf 183) (.vf 184)) (.fb .mul (.vf 183) (.vf 184)))),
  (1995864950, 186, (.tf tapeEvalsE1_60 (.fb .add (.vf 183) (.vf 184)) (.vf 185))),
  (1992431028, 187, (.tf tapeEvalsE1_61 (.fb .quo (.vf 183) (.vf 184)) (.vf 186))),
  (3522385829, 188, (.tf tapeEvalsE1_45 tapeEvalsE1_62 (.tf (.vb 2) (.vf 187) (.vf 186)))),
  (2147175002, 189, (.tf tapeEvalsE1_65 (.vf 158) (.tf tapeEvalsE1_66 (.vf 162) (.tf tapeEvalsE1_67 tapeEvalsE1_6 (.tf tapeEvalsE1_68 (.vf 170) (.tf tapeEvalsE1_69 (.vf 176) (.tf tapeEvalsE1_70 (.vf 182) (.vf 188)))))))),
  (3705639439, 190, (.tf tapeEvalsE1_72 (.vf 158) (.tf tapeEvalsE1_73 (.vf 162) (.tf tapeEvalsE1_74 tapeEvalsE1_6 (.tf tapeEvalsE1_75 (.vf 170) (.tf tapeEvalsE1_76 (.vf 176) (.tf tapeEvalsE1_77 (.vf 182) (.vf 188)))))))),
  (3634249474, 191, (.tf tapeEvalsE1_79 (.fb .sub (.vf 189) (.vf 190)) (.fb .mul (.vf 189) (.vf 190)))),
  (2618400562, 192, (.tf tapeEvalsE1_80 (.fb .add (.vf 189) (.vf 190)) (.vf 191))),
  (2614966640, 193, (.tf tapeEvalsE1_81 (.fb .quo (.vf 189) (.vf 190)) (.vf 192))),
  (2837056682, 194, (.tf tapeEvalsE1_63 tapeEvalsE1_82 (.tf (.vb 2) (.vf 193) (.vf 192)))),
  (2416981134, 195, (.tf tapeEvalsE1_85 (.vf 158) (.tf tapeEvalsE1_86 (.vf 162) (.tf tapeEvalsE1_87 tapeEvalsE1_6 (.tf tapeEvalsE1_88 (.vf 170) (.tf tapeEvalsE1_89 (.vf 176) (.tf tapeEvalsE1_90 (.vf 182) (.tf tapeEvalsE1_91 (.vf 188) (.vf 194))))))))),
  (3519361762, 196, (.tf tapeEvalsE1_93 (.vf 158) (.tf tapeEvalsE1_94 (.vf 162) (.tf tapeEvalsE1_95 tapeEvalsE1_6 (.tf tapeEvalsE1_96 (.vf 170) (.tf tapeEvalsE1_97 (.vf 176) (.tf tapeEvalsE1_98 (.vf 182) (.tf tapeEvalsE1_99 (.vf 188) (.vf 194))))))))),
  (4262785104, 197, (.tf tapeEvalsE1_101 (.fb .sub (.vf 195) (.vf 196)) (.fb .mul (.vf 195) (.vf 196)))),
  (3240936174, 198, (.tf tapeEvalsE1_102 (.fb .add (.vf 195) (.vf 196)) (.vf 197))),
  (3237502252, 199, (.tf tapeEvalsE1_103 (.fb .quo (.vf 195) (.vf 196)) (.vf 198))),
  (2151727535, 200, (.tf tapeEvalsE1_83 tapeEvalsE1_104 (.tf (.vb 2) (.vf 199) (.vf 198)))),
  (240933282, 201, (.tf tapeEvalsE1_107 (.vf 158) (.tf tapeEvalsE1_108 (.vf 162) (.tf tapeEvalsE1_109 tapeEvalsE1_6 (.tf tapeEvalsE1_110 (.vf 170) (.tf tapeEvalsE1_111 (.vf 176) (.tf tapeEvalsE1_112 (.vf 182) (.tf tapeEvalsE1_113 (.vf 188) (.tf tapeEvalsE1_114 (.vf 194) (.vf 200)))))))))),
  (887230101, 202, (.tf tapeEvalsE1_116 (.vf 158) (.tf tapeEvalsE1_117 (.vf 162) (.tf tapeEvalsE1_118 tapeEvalsE1_6 (.tf tapeEvalsE1_119 (.vf 170) (.tf tapeEvalsE1_120 (.vf 176) (.tf tapeEvalsE1_121 (.vf 182) (.tf tapeEvalsE1_122 (.vf 188) (.tf tapeEvalsE1_123 (.vf 194) (.vf 200)))))))))),
  (596353443, 203, (.tf tapeEvalsE1_125 (.fb .sub (.vf 201) (.vf 202)) (.fb .mul (.vf 201) (.vf 202)))),
  (3863471786, 204, (.tf tapeEvalsE1_126 (.fb .add (.vf 201) (.vf 202)) (.vf 203))),
  (3860037864, 205, (.tf tapeEvalsE1_127 (.fb .quo (.vf 201) (.vf 202)) (.vf 204))),
  (1466398388, 206, (.tf tapeEvalsE1_105 tapeEvalsE1_128 (.tf (.vb 2) (.vf 205) (.vf 204)))),
  (4208966028, 207, (.tf tapeEvalsE1_131 (.vf 158) (.tf tapeEvalsE1_132 (.vf 162) (.tf tapeEvalsE1_133 tapeEvalsE1_6 (.tf tapeEvalsE1_134 (.vf 170) (.tf tapeEvalsE1_135 (.vf 176) (.tf tapeEvalsE1_136 (.vf 182) (.tf tapeEvalsE1_137 (.vf 188) (.tf tapeEvalsE1_138 (.vf 194) (.tf tapeEvalsE1_139 (.vf 200) (.vf 206))))))))))),
  (104211747, 208, (.tf tapeEvalsE1_141 (.vf 158) (.tf tapeEvalsE1_142 (.vf 162) (.tf tapeEvalsE1_143 tapeEvalsE1_6 (.tf tapeEvalsE1_144 (.vf 170) (.tf tapeEvalsE1_145 (.vf 176) (.tf tapeEvalsE1_146 (.vf 182) (.tf tapeEvalsE1_147 (.vf 188) (.tf tapeEvalsE1_148 (.vf 194) (.tf tapeEvalsE1_149 (.vf 200) (.vf 206))))))))))),
  (1224889073, 209, (.tf tapeEvalsE1_151 (.fb .sub (.vf 207) (.vf 208)) (.fb .mul (.vf 207) (.vf 208)))),
  (191040107, 210, (.tf tapeEvalsE1_152 (.fb .add (.vf 207) (.vf 208)) (.vf 209))),
  (187606185, 211, (.tf tapeEvalsE1_153 (.fb .quo (.vf 207) (.vf 208)) (.vf 210))),
  (781069241, 212, (.tf tapeEvalsE1_129 tapeEvalsE1_154 (.tf (.vb 2) (.vf 211) (.vf 210)))),
  (2464993825, 213, (.tf tapeEvalsE1_158 (.vf 200) (.tf tapeEvalsE1_159 (.vf 206) (.vf 212)))),
  (173031283, 214, (.tf tapeEvalsE1_162 (.vf 200) (.tf tapeEvalsE1_163 (.vf 206) (.vf 212)))),
  (3077187189, 215, (.tf tapeEvalsE1_2 (.vf 159) (.tf tapeEvalsE1_4 (.vf 163) tapeEvalsE1_6))),
  (3079187195, 216, (.tf tapeEvalsE1_2 (.vf 160) (.tf tapeEvalsE1_4 (.vf 164) tapeEvalsE1_6))),
  (2165019571, 217, (.tf tapeEvalsE1_8 (.vf 159) (.tf tapeEvalsE1_9 (.vf 163) tapeEvalsE1_6))),
  (2167019577, 218, (.tf tapeEvalsE1_8 (.vf 160) (.tf tapeEvalsE1_9 (.vf 164) tapeEvalsE1_6))),
  (1087079994, 219, (.af 20 0 (.cf (.vf 215) (.cf (.vf 216) (.cf (.vf 217) (.cf (.vf 218) .n0)))))),
  (1088079997, 220, (.af 20 1 (.cf (.vf 215) (.cf (.vf 216) (.cf (.vf 217) (.cf (.vf 218) .n0)))))),
  (365701200, 221, (.af 21 0 (.cf (.vf 215) (.cf (.vf 216) (.cf (.vf 217) (.cf (.vf 218) .n0)))))),
  (366701203, 222, (.af 21 1 (.cf (.vf 215) (.cf (.vf 216) (.cf (.vf 217) (.cf (.vf 218) .n0)))))),
  (3939289697, 223, (.af 22 0 (.cf (.vf 215) (.cf (.vf 216) (.cf (.vf 217) (.cf (.vf 218) .n0)))))),
  (3940289700, 224, (.af 22 1 (.cf (.vf 215) (.cf (.vf 216) (.cf (.vf 217) (.cf (.vf 218) .n0)))))),
  (4248447704, 225, (.tf tapeEvalsE1_11 (.vf 222) (.vf 224))),
  (4247447700, 226, (.tf tapeEvalsE1_11 (.vf 221) (.vf 223))),
  (1394237996, 227, (.tf tapeEvalsE1_12 (.vf 220) (.vf 225))),
  (1393237994, 228, (.tf tapeEvalsE1_12 (.vf 219) (.vf 226))),
  (3217910903, 229, (.af 23 0 (.cf (.vf 215) (.cf (.vf 216) (.cf (.vf 217) (.cf (.vf 218) .n0)))))),
  (3218910906, 230, (.af 23 1 (.cf (.vf 215) (.cf (.vf 216) (.cf (.vf 217) (.cf (.vf 218) .n0)))))),
  (451591462, 231, (.tf tapeEvalsE1_13 (.vf 230) (.vf 227))),
  (450591460, 232, (.tf tapeEvalsE1_13 (.vf 229) (.vf 228))),
  (1345406224, 233, (.tf tapeEvalsE1_0 tapeEvalsE1_14 (.tf (.vb 2) (.vf 231) (.vf 227)))),
  (1346406228, 234, (.tf tapeEvalsE1_0 tapeEvalsE1_14 (.tf (.vb 2) (.vf 232) (.vf 228)))),
  (3844501936, 235, (.tf tapeEvalsE1_17 (.vf 159) (.tf tapeEvalsE1_18 (.vf 163) (.tf tapeEvalsE1_19 tapeEvalsE1_6 (.vf 234))))),
  (3846501941, 236, (.tf tapeEvalsE1_17 (.vf 160) (.tf tapeEvalsE1_18 (.vf 164) (.tf tapeEvalsE1_19 tapeEvalsE1_6 (.vf 233))))),
  (2476250509, 237, (.tf tapeEvalsE1_21 (.vf 159) (.tf tapeEvalsE1_22 (.vf 163) (.tf tapeEvalsE1_23 tapeEvalsE1_6 (.vf 234))))),
  (2478250514, 238, (.tf tapeEvalsE1_21 (.vf 160) (.tf tapeEvalsE1_22 (.vf 164) (.tf tapeEvalsE1_23 tapeEvalsE1_6 (.vf 233))))),
  (1167080234, 239, (.af 20 0 (.cf (.vf 235) (.cf (.vf 236) (.cf (.vf 237) (.cf (.vf 238) .n0)))))),
  (1168080237, 240, (.af 20 1 (.cf (.vf 235) (.cf (.vf 236) (.cf (.vf 237) (.cf (.vf 238) .n0)))))),
  (445701440, 241, (.af 21 0 (.cf (.vf 235) (.cf (.vf 236) (.cf (.vf 237) (.cf (.vf 238) .n0)))))),
  (446701443, 242, (.af 21 1 (.cf (.vf 235) (.cf (.vf 236) (.cf (.vf 237) (.cf (.vf 238) .n0)))))),
  (4019289937, 243, (.af 22 0 (.cf (.vf 235) (.cf (.vf 236) (.cf (.vf 237) (.cf (.vf 238) .n0)))))),
  (4020289940, 244, (.af 22 1 (.cf (.vf 235) (.cf (.vf 236) (.cf (.vf 237) (.cf (.vf 238) .n0)))))),
  (623321554, 245, (.tf tapeEvalsE1_25 (.vf 242) (.vf 244))),
  (622321550, 246, (.tf tapeEvalsE1_25 (.vf 241) (.vf 243))),
  (2064079137, 247, (.tf tapeEvalsE1_26 (.vf 240) (.vf 245))),
  (2063079135, 248, (.tf tapeEvalsE1_26 (.vf 239) (.vf 246))),
  (3297911143, 249, (.af 23 0 (.cf (.vf 235) (.cf (.vf 236) (.cf (.vf 237) (.cf (.vf 238) .n0)))))),
  (3298911146, 250, (.af 23 1 (.cf (.vf 235) (.cf (.vf 236) (.cf (.vf 237) (.cf (.vf 238) .n0)))))),
  (1121432603, 251, (.tf tapeEvalsE1_27 (.vf 250) (.vf 247))),
  (1120432601, 252, (.tf tapeEvalsE1_27 (.vf 249) (.vf 248))),
  (674077133, 253, (.tf tapeEvalsE1_15 tapeEvalsE1_28 (.tf (.vb 2) (.vf 251) (.vf 247)))),
  (675077137, 254, (.tf tapeEvalsE1_15 tapeEvalsE1_28 (.tf (.vb 2) (.vf 252) (.vf 248)))),
  (2925935644, 255, (.tf tapeEvalsE1_31 (.vf 159) (.tf tapeEvalsE1_32 (.vf 163) (.tf tapeEvalsE1_33 tapeEvalsE1_6 (.tf tapeEvalsE1_34 (.vf 234) (.vf 254)))))),
  (2926935646, 256, (.tf tapeEvalsE1_31 (.vf 160) (.tf tapeEvalsE1_32 (.vf 164) (.tf tapeEvalsE1_33 tapeEvalsE1_6 (.tf tapeEvalsE1_34 (.vf 233) (.vf 253)))))),
  (1101600408, 257, (.tf tapeEvalsE1_36 (.vf 159) (.tf tapeEvalsE1_37 (.vf 163) (.tf tapeEvalsE1_38 tapeEvalsE1_6 (.tf tapeEvalsE1_39 (.vf 234) (.vf 254)))))),
  (1102600410, 258, (.tf tapeEvalsE1_36 (.vf 160) (.tf tapeEvalsE1_37 (.vf 164) (.tf tapeEvalsE1_38 tapeEvalsE1_6 (.tf tapeEvalsE1_39 (.vf 233) (.vf 253)))))),
  (1247080474, 259, (.af 20 0 (.cf (.vf 255) (.cf (.vf 256) (.cf (.vf 257) (.cf (.vf 258) .n0)))))),
  (1248080477, 260, (.af 20 1 (.cf (.vf 255) (.cf (.vf 256) (.cf (.vf 257) (.cf (.vf 258) .n0)))))),
  (525701680, 261, (.af 21 0 (.cf (.vf 255) (.cf (.vf 256) (.cf (.vf 257) (.cf (.vf 258) .n0)))))),
  (526701683, 262, (.af 21 1 (.cf (.vf 255) (.cf (.vf 256) (.cf (.vf 257) (.cf (.vf 258) .n0)))))),
  (4099290177, 263, (.af 22 0 (.cf (.vf 255) (.cf (.vf 256) (.cf (.vf 257) (.cf (.vf 258) .n0)))))),
  (4100290180, 264, (.af 22 1 (.cf (.vf 255) (.cf (.vf 256) (.cf (.vf 257) (.cf (.vf 258) .n0)))))),
  (1293162695, 265, (.tf tapeEvalsE1_41 (.vf 262) (.vf 264))),
  (1292162691, 266, (.tf tapeEvalsE1_41 (.vf 261) (.vf 263))),
  (2733920278, 267, (.tf tapeEvalsE1_42 (.vf 260) (.vf 265))),
  (2732920276, 268, (.tf tapeEvalsE1_42 (.vf 259) (.vf 266))),
  (3377911383, 269, (.af 23 0 (.cf (.vf 255) (.cf (.vf 256) (.cf (.vf 257) (.cf (.vf 258) .n0)))))),
  (3378911386, 270, (.af 23 1 (.cf (.vf 255) (.cf (.vf 256) (.cf (.vf 257) (.cf (.vf 258) .n0)))))),
  (1791273744, 271, (.tf tapeEvalsE1_43 (.vf 270) (.vf 267))),
  (1790273742, 272, (.tf tapeEvalsE1_43 (.vf 269) (.vf 268))),
  (2748042, 273, (.tf tapeEvalsE1_29 tapeEvalsE1_44 (.tf (.vb 2) (.vf 271) (.vf 267)))),
  (3748046, 274, (.tf tapeEvalsE1_29 tapeEvalsE1_44 (.tf (.vb 2) (.vf 272) (.vf 268)))),
  (3870482701, 275, (.tf tapeEvalsE1_47 (.vf 159) (.tf tapeEvalsE1_48 (.vf 163) (.tf tapeEvalsE1_49 tapeEvalsE1_6 (.tf tapeEvalsE1_50 (.vf 234) (.tf tapeEvalsE1_51 (.vf 254) (.vf 274))))))),
  (3870482700, 276, (.tf tapeEvalsE1_47 (.vf 160) (.tf tapeEvalsE1_48 (.vf 164) (.tf tapeEvalsE1_49 tapeEvalsE1_6 (.tf tapeEvalsE1_50 (.vf 233) (.tf tapeEvalsE1_51 (.vf 253) (.vf 273))))))),
  (1590063656, 277, (.tf tapeEvalsE1_53 (.vf 159) (.tf tapeEvalsE1_54 (.vf 163) (.tf tapeEvalsE1_55 tapeEvalsE1_6 (.tf tapeEvalsE1_56 (.vf 234) (.tf tapeEvalsE1_57 (.vf 254) (.vf 274))))))),
  (1590063655, 278, (.tf tapeEvalsE1_53 (.vf 160) (.tf tapeEvalsE1_54 (.vf 164) (.tf tapeEvalsE1_55 tapeEvalsE1_6 (.tf tapeEvalsE1_56 (.vf 233) (.tf tapeEvalsE1_57 (.vf 253) (.vf 273))))))),
  (1327080714, 279, (.af 20 0 (.cf (.vf 275) (.cf (.vf 276) (.cf (.vf 277) (.cf (.vf 278) .n0)))))),
  (1328080717, 280, (.af 20 1 (.cf (.vf 275) (.cf (.vf 276) (.cf (.vf 277) (.cf (.vf 278) .n0)))))),
  (605701920, 281, (.af 21 0 (.cf (.vf 275) (.cf (.vf 276) (.cf (.vf 277) (.cf (.vf 278) .n0)))))),
  (606701923, 282, (.af 21 1 (.cf (.vf 275) (.cf (.vf 276) (.cf (.vf 277) (.cf (.vf 278) .n0)))))),
  (4179290417, 283, (.af 22 0 (.cf (.vf 275) (.cf (.vf 276) (.cf (.vf 277) (.cf (.vf 278) .n0)))))),
  (4180290420, 284, (.af 22 1 (.cf (.vf 275) (.cf (.vf 276) (.cf (.vf 277) (.cf (.vf 278) .n0)))))),
  (1963003836, 285, (.tf tapeEvalsE1_59 (.vf 282) (.vf 284))),
  (1962003832, 286, (.tf tapeEvalsE1_59 (.vf 281) (.vf 283))),
  (3403761419, 287, (.tf tapeEvalsE1_60 (.vf 280) (.vf 285))),
  (3402761417, 288, (.tf tapeEvalsE1_60 (.vf 279) (.vf 286))),
  (3457911623, 289, (.af 23 0 (.cf (.vf 275) (.cf (.vf 276) (.cf (.vf 277) (.cf (.vf 278) .n0)))))),
  (3458911626, 290, (.af 23 1 (.cf (.vf 275) (.cf (.vf 276) (.cf (.vf 277) (.cf (.vf 278) .n0)))))),
  (2461114885, 291, (.tf tapeEvalsE1_61 (.vf 290) (.vf 287))),
  (2460114883, 292, (.tf tapeEvalsE1_61 (.vf 289) (.vf 288))),
  (3626386242, 293, (.tf tapeEvalsE1_45 tapeEvalsE1_62 (.tf (.vb 2) (.vf 291) (.vf 287)))),
  (3627386246, 294, (.tf tapeEvalsE1_45 tapeEvalsE1_62 (.tf (.vb 2) (.vf 292) (.vf 288)))),
  (2383175816, 295, (.tf tapeEvalsE1_65 (.vf 159) (.tf tapeEvalsE1_66 (.vf 163) (.tf tapeEvalsE1_67 tapeEvalsE1_6 (.tf tapeEvalsE1_68 (.vf 234) (.tf tapeEvalsE1_69 (.vf 254) (.tf tapeEvalsE1_70 (.vf 274) (.vf 294)))))))),
  (2382175812, 296, (.tf tapeEvalsE1_65 (.vf 160) (.tf tapeEvalsE1_66 (.vf 164) (.tf tapeEvalsE1_67 tapeEvalsE1_6 (.tf tapeEvalsE1_68 (.vf 233) (.tf tapeEvalsE1_69 (.vf 253) (.tf tapeEvalsE1_70 (.vf 273) (.vf 293)))))))),
  (3941640253, 297, (.tf tapeEvalsE1_72 (.vf 159) (.tf tapeEvalsE1_73 (.vf 163) (.tf tapeEvalsE1_74 tapeEvalsE1_6 (.tf tapeEvalsE1_75 (.vf 234) (.tf tapeEvalsE1_76 (.vf 254) (.tf tapeEvalsE1_77 (.vf 274) (.vf 294)))))))),
  (3940640249, 298, (.tf tapeEvalsE1_72 (.vf 160) (.tf tapeEvalsE1_73 (.vf 164) (.tf tapeEvalsE1_74 tapeEvalsE1_6 (.tf tapeEvalsE1_75 (.vf 233) (.tf tapeEvalsE1_76 (.vf 253) (.tf tapeEvalsE1_77 (.vf 273) (.vf 293)))))))),
  (1407080954, 299, (.af 20 0 (.cf (.vf 295) (.cf (.vf 296) (.cf (.vf 297) (.cf (.vf 298) .n0)))))),
  (1408080957, 300, (.af 20 1 (.cf (.vf 295) (.cf (.vf 296) (.cf (.vf 297) (.cf (.vf 298) .n0)))))),
  (685702160, 301, (.af 21 0 (.cf (.vf 295) (.cf (.vf 296) (.cf (.vf 297) (.cf (.vf 298) .n0)))))),
  (686702163, 302, (.af 21 1 (.cf (.vf 295) (.cf (.vf 296) (.cf (.vf 297) (.cf (.vf 298) .n0)))))),
  (4259290657, 303, (.af 22 0 (.cf (.vf 295) (.cf (.vf 296) (.cf (.vf 297) (.cf (.vf 298) .n0)))))),
  (4260290660, 304, (.af 22 1 (.cf (.vf 295) (.cf (.vf 296) (.cf (.vf 297) (.cf (.vf 298) .n0)))))),
  (2632844977, 305, (.tf tapeEvalsE1_79 (.vf 302) (.vf 304))),
  (2631844973, 306, (.tf tapeEvalsE1_79 (.vf 301) (.vf 303))),
  (4073602560, 307, (.tf tapeEvalsE1_80 (.vf 300) (.vf 305))),
  (4072602558, 308, (.tf tapeEvalsE1_80 (.vf 299) (.vf 306))),
  (3537911863, 309, (.af 23 0 (.cf (.vf 295) (.cf (.vf 296) (.cf (.vf 297) (.cf (.vf 298) .n0)))))),
  (3538911866, 310, (.af 23 1 (.cf (.vf 295) (.cf (.vf 296) (.cf (.vf 297) (.cf (.vf 298) .n0)))))),
  (3130956026, 311, (.tf tapeEvalsE1_81 (.vf 310) (.vf 307))),
  (3129956024, 312, (.tf tapeEvalsE1_81 (.vf 309) (.vf 308))),
  (2955057151, 313, (.tf tapeEvalsE1_63 tapeEvalsE1_82 (.tf (.vb 2) (.vf 311) (.vf 307)))),
  (2956057155, 314, (.tf tapeEvalsE1_63 tapeEvalsE1_82 (.tf (.vb 2) (.vf 312) (.vf 308)))),
  (2758982280, 315, (.tf tapeEvalsE1_85 (.vf 159) (.tf tapeEvalsE1_86 (.vf 163) (.tf tapeEvalsE1_87 tapeEvalsE1_6 (.tf tapeEvalsE1_88 (.vf 234) (.tf tapeEvalsE1_89 (.vf 254) (.tf tapeEvalsE1_90 (.vf 274) (.tf tapeEvalsE1_91 (.vf 294) (.vf 314))))))))),
  (2756982273, 316, (.tf tapeEvalsE1_85 (.vf 160) (.tf tapeEvalsE1_86 (.vf 164) (.tf tapeEvalsE1_87 tapeEvalsE1_6 (.tf tapeEvalsE1_88 (.vf 233) (.tf tapeEvalsE1_89 (.vf 253) (.tf tapeEvalsE1_90 (.vf 273) (.tf tapeEvalsE1_91 (.vf 293) (.vf 313))))))))),
  (3861362908, 317, (.tf tapeEvalsE1_93 (.vf 159) (.tf tapeEvalsE1_94 (.vf 163) (.tf tapeEvalsE1_95 tapeEvalsE1_6 (.tf tapeEvalsE1_96 (.vf 234) (.tf tapeEvalsE1_97 (.vf 254) (.tf tapeEvalsE1_98 (.vf 274) (.tf tapeEvalsE1_99 (.vf 294) (.vf 314))))))))),
  (3859362901, 318, (.tf tapeEvalsE1_93 (.vf 160) (.tf tapeEvalsE1_94 (.vf 164) (.tf tapeEvalsE1_95 tapeEvalsE1_6 (.tf tapeEvalsE1_96 (.vf 233) (.tf tapeEvalsE1_97 (.vf 253) (.tf tapeEvalsE1_98 (.vf 273) (.tf tapeEvalsE1_99 (.vf 293) (.vf 313))))))))),
  (1487081194, 319, (.af 20 0 (.cf (.vf 315) (.cf (.vf 316) (.cf (.vf 317) (.cf (.vf 318) .n0)))))),
  (1488081197, 320, (.af 20 1 (.cf (.vf 315) (.cf (.vf 316) (.cf (.vf 317) (.cf (.vf 318) .n0)))))),
  (765702400, 321, (.af 21 0 (.cf (.vf 315) (.cf (.vf 316) (.cf (.vf 317) (.cf (.vf 318) .n0)))))),
  (766702403, 322, (.af 21 1 (.cf (.vf 315) (.cf (.vf 316) (.cf (.vf 317) (.cf (.vf 318) .n0)))))),
  (44323606, 323, (.af 22 0 (.cf (.vf 315) (.cf (.vf 316) (.cf (.vf 317) (.cf (.vf 318) .n0)))))),
  (45323609, 324, (.af 22 1 (.cf (.vf 315) (.cf (.vf 316) (.cf (.vf 317) (.cf (.vf 318) .n0)))))),
  (3302686118, 325, (.tf tapeEvalsE1_101 (.vf 322) (.vf 324))),
  (3301686114, 326, (.tf tapeEvalsE1_101 (.vf 321) (.vf 323))),
  (448476410, 327, (.tf tapeEvalsE1_102 (.vf 320) (.vf 325))),
  (447476408, 328, (.tf tapeEvalsE1_102 (.vf 319) (.vf 326))),
  (3617912103, 329, (.af 23 0 (.cf (.vf 315) (.cf (.vf 316) (.cf (.vf 317) (.cf (.vf 318) .n0)))))),
  (3618912106, 330, (.af 23 1 (.cf (.vf 315) (.cf (.vf 316) (.cf (.vf 317) (.cf (.vf 318) .n0)))))),
  (3800797167, 331, (.tf tapeEvalsE1_103 (.vf 330) (.vf 327))),
  (3799797165, 332, (.tf tapeEvalsE1_103 (.vf 329) (.vf 328))),
  (2283728060, 333, (.tf tapeEvalsE1_83 tapeEvalsE1_104 (.tf (.vb 2) (.vf 331) (.vf 327)))),
  (2284728064, 334, (.tf tapeEvalsE1_83 tapeEvalsE1_104 (.tf (.vb 2) (.vf 332) (.vf 328)))),
  (702934802, 335, (.tf tapeEvalsE1_107 (.vf 159) (.tf tapeEvalsE1_108 (.vf 163) (.tf tapeEvalsE1_109 tapeEvalsE1_6 (.tf tapeEvalsE1_110 (.vf 234) (.tf tapeEvalsE1_111 (.vf 254) (.tf tapeEvalsE1_112 (.vf 274) (.tf tapeEvalsE1_113 (.vf 294) (.tf tapeEvalsE1_114 (.vf 314) (.vf 334)))))))))),
  (699934792, 336, (.tf tapeEvalsE1_107 (.vf 160) (.tf tapeEvalsE1_108 (.vf 164) (.tf tapeEvalsE1_109 tapeEvalsE1_6 (.tf tapeEvalsE1_110 (.vf 233) (.tf tapeEvalsE1_111 (.vf 253) (.tf tapeEvalsE1_112 (.vf 273) (.tf tapeEvalsE1_113 (.vf 293) (.tf tapeEvalsE1_114 (.vf 313) (.vf 333)))))))))),
  (1349231621, 337, (.tf tapeEvalsE1_116 (.vf 159) (.tf tapeEvalsE1_117 (.vf 163) (.tf tapeEvalsE1_118 tapeEvalsE1_6 (.tf tapeEvalsE1_119 (.vf 234) (.tf tapeEvalsE1_120 (.vf 254) (.tf tapeEvalsE1_121 (.vf 274) (.tf tapeEvalsE1_122 (.vf 294) (.tf tapeEvalsE1_123 (.vf 314) (.vf 334)))))))))),
  (1346231611, 338, (.tf tapeEvalsE1_116 (.vf 160) (.tf tapeEvalsE1_117 (.vf 164) (.tf tapeEvalsE1_118 tapeEvalsE1_6 (.tf tapeEvalsE1_119 (.vf 233) (.tf tapeEvalsE1_120 (.vf 253) (.tf tapeEvalsE1_121 (.vf 273) (.tf tapeEvalsE1_122 (.vf 293) (.tf tapeEvalsE1_123 (.vf 313) (.vf 333)))))))))),
  (1567081434, 339, (.af 20 0 (.cf (.vf 335) (.cf (.vf 336) (.cf (.vf 337) (.cf (.vf 338) .n0)))))),
  (1568081437, 340, (.af 20 1 (.cf (.vf 335) (.cf (.vf 336) (.cf (.vf 337) (.cf (.vf 338) .n0)))))),
  (845702640, 341, (.af 21 0 (.cf (.vf 335) (.cf (.vf 336) (.cf (.vf 337) (.cf (.vf 338) .n0)))))),
  (846702643, 342, (.af 21 1 (.cf (.vf 335) (.cf (.vf 336) (.cf (.vf 337) (.cf (.vf 338) .n0)))))),
  (124323846, 343, (.af 22 0 (.cf (.vf 335) (.cf (.vf 336) (.cf (.vf 337) (.cf (.vf 338) .n0)))))),
  (125323849, 344, (.af 22 1 (.cf (.vf 335) (.cf (.vf 336) (.cf (.vf 337) (.cf (.vf 338) .n0)))))),
  (3972527259, 345, (.tf tapeEvalsE1_125 (.vf 342) (.vf 344))),
  (3971527255, 346, (.tf tapeEvalsE1_125 (.vf 341) (.vf 343))),
  (1118317551, 347, (.tf tapeEvalsE1_126 (.vf 340) (.vf 345))),
  (1117317549, 348, (.tf tapeEvalsE1_126 (.vf 339) (.vf 346))),
  (3697912343, 349, (.af 23 0 (.cf (.vf 335) (.cf (.vf 336) (.cf (.vf 337) (.cf (.vf 338) .n0)))))),
  (3698912346, 350, (.af 23 1 (.cf (.vf 335) (.cf (.vf 336) (.cf (.vf 337) (.cf (.vf 338) .n0)))))),
  (175671017, 351, (.tf tapeEvalsE1_127 (.vf 350) (.vf 347))),
  (174671015, 352, (.tf tapeEvalsE1_127 (.vf 349) (.vf 348))),
  (1612398969, 353, (.tf tapeEvalsE1_105 tapeEvalsE1_128 (.tf (.vb 2) (.vf 351) (.vf 347)))),
  (1613398973, 354, (.tf tapeEvalsE1_105 tapeEvalsE1_128 (.tf (.vb 2) (.vf 352) (.vf 348)))),
  (510000673, 355, (.tf tapeEvalsE1_131 (.vf 159) (.tf tapeEvalsE1_132 (.vf 163) (.tf tapeEvalsE1_133 tapeEvalsE1_6 (.tf tapeEvalsE1_134 (.vf 234) (.tf tapeEvalsE1_135 (.vf 254) (.tf tapeEvalsE1_136 (.vf 274) (.tf tapeEvalsE1_137 (.vf 294) (.tf tapeEvalsE1_138 (.vf 314) (.tf tapeEvalsE1_139 (.vf 334) (.vf 354))))))))))),
  (506000660, 356, (.tf tapeEvalsE1_131 (.vf 160) (.tf tapeEvalsE1_132 (.vf 164) (.tf tapeEvalsE1_133 tapeEvalsE1_6 (.tf tapeEvalsE1_134 (.vf 233) (.tf tapeEvalsE1_135 (.vf 253) (.tf tapeEvalsE1_136 (.vf 273) (.tf tapeEvalsE1_137 (.vf 293) (.tf tapeEvalsE1_138 (.vf 313) (.tf tapeEvalsE1_139 (.vf 333) (.vf 353))))))))))),
  (700213683, 357, (.tf tapeEvalsE1_141 (.vf 159) (.tf tapeEvalsE1_142 (.vf 163) (.tf tapeEvalsE1_143 tapeEvalsE1_6 (.tf tapeEvalsE1_144 (.vf 234) (.tf tapeEvalsE1_145 (.vf 254) (.tf tapeEvalsE1_146 (.vf 274) (.tf tapeEvalsE1_147 (.vf 294) (.tf tapeEvalsE1_148 (.vf 314) (.tf tapeEvalsE1_149 (.vf 334) (.vf 354))))))))))),
  (696213670, 358, (.tf tapeEvalsE1_141 (.vf 160) (.tf tapeEvalsE1_142 (.vf 164) (.tf tapeEvalsE1_143 tapeEvalsE1_6 (.tf tapeEvalsE1_144 (.vf 233) (.tf tapeEvalsE1_145 (.vf 253) (.tf tapeEvalsE1_146 (.vf 273) (.tf tapeEvalsE1_147 (.vf 293) (.tf tapeEvalsE1_148 (.vf 313) (.tf tapeEvalsE1_149 (.vf 333) (.vf 353))))))))))),
  (1647081674, 359, (.af 20 0 (.cf (.vf 355) (.cf (.vf 356) (.cf (.vf 357) (.cf (.vf 358) .n0)))))),
  (1648081677, 360, (.af 20 1 (.cf (.vf 355) (.cf (.vf 356) (.cf (.vf 357) (.cf (.vf 358) .n0)))))),
  (925702880, 361, (.af 21 0 (.cf (.vf 355) (.cf (.vf 356) (.cf (.vf 357) (.cf (.vf 358) .n0)))))),
  (926702883, 362, (.af 21 1 (.cf (.vf 355) (.cf (.vf 356) (.cf (.vf 357) (.cf (.vf 358) .n0)))))),
  (204324086, 363, (.af 22 0 (.cf (.vf 355) (.cf (.vf 356) (.cf (.vf 357) (.cf (.vf 358) .n0)))))),
  (205324089, 364, (.af 22 1 (.cf (.vf 355) (.cf (.vf 356) (.cf (.vf 357) (.cf (.vf 358) .n0)))))),
  (347401109, 365, (.tf tapeEvalsE1_151 (.vf 362) (.vf 364))),
  (346401105, 366, (.tf tapeEvalsE1_151 (.vf 361) (.vf 363))),
  (1788158692, 367, (.tf tapeEvalsE1_152 (.vf 360) (.vf 365))),
  (1787158690, 368, (.tf tapeEvalsE1_152 (.vf 359) (.vf 366))),
  (3777912583, 369, (.af 23 0 (.cf (.vf 355) (.cf (.vf 356) (.cf (.vf 357) (.cf (.vf 358) .n0)))))),
  (3778912586, 370, (.af 23 1 (.cf (.vf 355) (.cf (.vf 356) (.cf (.vf 357) (.cf (.vf 358) .n0)))))),
  (845512158, 371, (.tf tapeEvalsE1_153 (.vf 370) (.vf 367))),
  (844512156, 372, (.tf tapeEvalsE1_153 (.vf 369) (.vf 368))),
  (941069878, 373, (.tf tapeEvalsE1_129 tapeEvalsE1_154 (.tf (.vb 2) (.vf 371) (.vf 367)))),
  (942069882, 374, (.tf tapeEvalsE1_129 tapeEvalsE1_154 (.tf (.vb 2) (.vf 372) (.vf 368)))),
  (2746994833, 375, (.tf tapeEvalsE1_158 (.vf 334) (.tf tapeEvalsE1_159 (.vf 354) (.vf 374)))),
  (2744994826, 376, (.tf tapeEvalsE1_158 (.vf 333) (.tf tapeEvalsE1_159 (.vf 353) (.vf 373)))),
  (455032291, 377, (.tf tapeEvalsE1_162 (.vf 334) (.tf tapeEvalsE1_163 (.vf 354) (.vf 374)))),
  (453032284, 378, (.tf tapeEvalsE1_162 (.vf 333) (.tf tapeEvalsE1_163 (.vf 353) (.vf 373)))),
  (1917683249, 379, (.tf tapeEvalsE1_167 (.vf 129) (.tf tapeEvalsE1_168 (.vf 135) (.vf 141)))),
  (3920687998, 380, (.tf tapeEvalsE1_170 (.vf 129) (.tf tapeEvalsE1_171 (.vf 135) (.vf 141)))),
  (2047683704, 381, (.tf tapeEvalsE1_167 (.vf 194) (.tf tapeEvalsE1_168 (.vf 200) (.vf 206)))),
  (4050688453, 382, (.tf tapeEvalsE1_170 (.vf 194) (.tf tapeEvalsE1_171 (.vf 200) (.vf 206)))),
  (2301684614, 383, (.tf tapeEvalsE1_167 (.vf 314) (.tf tapeEvalsE1_168 (.vf 334) (.vf 354)))),
  (2299684607, 384, (.tf tapeEvalsE1_167 (.vf 313) (.tf tapeEvalsE1_168 (.vf 333) (.vf 353)))),
  (9722072, 385, (.tf tapeEvalsE1_170 (.vf 314) (.tf tapeEvalsE1_171 (.vf 334) (.vf 354)))),
  (7722065, 386, (.tf tapeEvalsE1_170 (.vf 313) (.tf tapeEvalsE1_171 (.vf 333) (.vf 353)))),
  (1500373128, 387, (.tf tapeEvalsE1_173 (.vf 123) (.tf tapeEvalsE1_174 (.vf 129) (.vf 135)))),
  (3503377877, 388, (.tf tapeEvalsE1_176 (.vf 123) (.tf tapeEvalsE1_177 (.vf 129) (.vf 135)))),
  (1630373583, 389, (.tf tapeEvalsE1_173 (.vf 188) (.tf tapeEvalsE1_174 (.vf 194) (.vf 200)))),
  (3633378332, 390, (.tf tapeEvalsE1_176 (.vf 188) (.tf tapeEvalsE1_177 (.vf 194) (.vf 200)))),
  (1856374395, 391, (.tf tapeEvalsE1_173 (.vf 294) (.tf tapeEvalsE1_174 (.vf 314) (.vf 334)))),
  (1854374388, 392, (.tf tapeEvalsE1_173 (.vf 293) (.tf tapeEvalsE1_174 (.vf 313) (.vf 333)))),
  (3859379144, 393, (.tf tapeEvalsE1_176 (.vf 294) (.tf tapeEvalsE1_177 (.vf 314) (.vf 334)))),
  (3857379137, 394, (.tf tapeEvalsE1_176 (.vf 293) (.tf tapeEvalsE1_177 (.vf 313) (.vf 333)))),
  (1083063007, 395, (.tf tapeEvalsE1_179 (.vf 117) (.tf tapeEvalsE1_180 (.vf 123) (.vf 129)))),
  (3086067756, 396, (.tf tapeEvalsE1_182 (.vf 117) (.tf tapeEvalsE1_183 (.vf 123) (.vf 129)))),
  (1213063462, 397, (.tf tapeEvalsE1_179 (.vf 182) (.tf tapeEvalsE1_180 (.vf 188) (.vf 194)))),
  (3216068211, 398, (.tf tapeEvalsE1_182 (.vf 182) (.tf tapeEvalsE1_183 (.vf 188) (.vf 194)))),
  (1411064176, 399, (.tf tapeEvalsE1_179 (.vf 274) (.tf tapeEvalsE1_180 (.vf 294) (.vf 314)))),
  (1409064169, 400, (.tf tapeEvalsE1_179 (.vf 273) (.tf tapeEvalsE1_180 (.vf 293) (.vf 313)))),
  (3414068925, 401, (.tf tapeEvalsE1_182 (.vf 274) (.tf tapeEvalsE1_183 (.vf 294) (.vf 314)))),
  (3412068918, 402, (.tf tapeEvalsE1_182 (.vf 273) (.tf tapeEvalsE1_183 (.vf 293) (.vf 313)))),
  (665752886, 403, (.tf tapeEvalsE1_185 (.vf 111) (.tf tapeEvalsE1_186 (.vf 117) (.vf 123)))),
  (2668757635, 404, (.tf tapeEvalsE1_188 (.vf 111) (.tf tapeEvalsE1_189 (.vf 117) (.vf 123)))),
  (795753341, 405, (.tf tapeEvalsE1_185 (.vf 176) (.tf tapeEvalsE1_186 (.vf 182) (.vf 188)))),
  (2798758090, 406, (.tf tapeEvalsE1_188 (.vf 176) (.tf tapeEvalsE1_189 (.vf 182) (.vf 188)))),
  (965753957, 407, (.tf tapeEvalsE1_185 (.vf 254) (.tf tapeEvalsE1_186 (.vf 274) (.vf 294)))),
  (963753950, 408, (.tf tapeEvalsE1_185 (.vf 253) (.tf tapeEvalsE1_186 (.vf 273) (.vf 293)))),
  (2968758706, 409, (.tf tapeEvalsE1_188 (.vf 254) (.tf tapeEvalsE1_189 (.vf 274) (.vf 294)))),
  (2966758699, 410, (.tf tapeEvalsE1_188 (.vf 253) (.tf tapeEvalsE1_189 (.vf 273) (.vf 293)))),
  (248442765, 411, (.tf tapeEvalsE1_191 (.vf 105) (.tf tapeEvalsE1_192 (.vf 111) (.vf 117)))),
  (2251447514, 412, (.tf tapeEvalsE1_194 (.vf 105) (.tf tapeEvalsE1_195 (.vf 111) (.vf 117)))),
  (378443220, 413, (.tf tapeEvalsE1_191 (.vf 170) (.tf tapeEvalsE1_192 (.vf 176) (.vf 182)))),
  (2381447969, 414, (.tf tapeEvalsE1_194 (.vf 170) (.tf tapeEvalsE1_195 (.vf 176) (.vf 182)))),
  (520443738, 415, (.tf tapeEvalsE1_191 (.vf 234) (.tf tapeEvalsE1_192 (.vf 254) (.vf 274)))),
  (518443731, 416, (.tf tapeEvalsE1_191 (.vf 233) (.tf tapeEvalsE1_192 (.vf 253) (.vf 273)))),
  (2523448487, 417, (.tf tapeEvalsE1_194 (.vf 234) (.tf tapeEvalsE1_195 (.vf 254) (.vf 274)))),
  (2521448480, 418, (.tf tapeEvalsE1_194 (.vf 233) (.tf tapeEvalsE1_195 (.vf 253) (.vf 273)))),
  (589144689, 419, (.tf tapeEvalsE1_197 tapeEvalsE1_6 (.tf tapeEvalsE1_198 (.vf 105) (.vf 111)))),
  (2592149438, 420, (.tf tapeEvalsE1_200 tapeEvalsE1_6 (.tf tapeEvalsE1_201 (.vf 105) (.vf 111)))),
  (654144949, 421, (.tf tapeEvalsE1_197 tapeEvalsE1_6 (.tf tapeEvalsE1_198 (.vf 170) (.vf 176)))),
  (2657149698, 422, (.tf tapeEvalsE1_200 tapeEvalsE1_6 (.tf tapeEvalsE1_201 (.vf 170) (.vf 176)))),
  (718145219, 423, (.tf tapeEvalsE1_197 tapeEvalsE1_6 (.tf tapeEvalsE1_198 (.vf 234) (.vf 254)))),
  (717145215, 424, (.tf tapeEvalsE1_197 tapeEvalsE1_6 (.tf tapeEvalsE1_198 (.vf 233) (.vf 253)))),
  (2721149968, 425, (.tf tapeEvalsE1_200 tapeEvalsE1_6 (.tf tapeEvalsE1_201 (.vf 234) (.vf 254)))),
  (2720149964, 426, (.tf tapeEvalsE1_200 tapeEvalsE1_6 (.tf tapeEvalsE1_201 (.vf 233) (.vf 253)))),
  (2370441076, 427, (.tf tapeEvalsE1_203 tapeEvalsE1_5 (.tf tapeEvalsE1_204 tapeEvalsE1_6 (.vf 105)))),
  (78478534, 428, (.tf tapeEvalsE1_206 tapeEvalsE1_5 (.tf tapeEvalsE1_207 tapeEvalsE1_6 (.vf 105)))),
  (240834840, 429, (.tf tapeEvalsE1_203 (.vf 162) (.tf tapeEvalsE1_204 tapeEvalsE1_6 (.vf 170)))),
  (2243839589, 430, (.tf tapeEvalsE1_206 (.vf 162) (.tf tapeEvalsE1_207 tapeEvalsE1_6 (.vf 170)))),
  (241834907, 431, (.tf tapeEvalsE1_203 (.vf 163) (.tf tapeEvalsE1_204 tapeEvalsE1_6 (.vf 234)))),
  (242834909, 432, (.tf tapeEvalsE1_203 (.vf 164) (.tf tapeEvalsE1_204 tapeEvalsE1_6 (.vf 233)))),
  (2244839656, 433, (.tf tapeEvalsE1_206 (.vf 163) (.tf tapeEvalsE1_207 tapeEvalsE1_6 (.vf 234)))),
  (2245839658, 434, (.tf tapeEvalsE1_206 (.vf 164) (.tf tapeEvalsE1_207 tapeEvalsE1_6 (.vf 233)))),
  (2001500142, 435, (.tf tapeEvalsE1_209 tapeEvalsE1_3 (.tf tapeEvalsE1_210 tapeEvalsE1_5 tapeEvalsE1_6))),
  (305897095, 436, (.tf tapeEvalsE1_212 tapeEvalsE1_3 (.tf tapeEvalsE1_213 tapeEvalsE1_5 tapeEvalsE1_6))),
  (2444950564, 437, (.tf tapeEvalsE1_209 (.vf 158) (.tf tapeEvalsE1_210 (.vf 162) tapeEvalsE1_6))),
  (749347517, 438, (.tf tapeEvalsE1_212 (.vf 158) (.tf tapeEvalsE1_213 (.vf 162) tapeEvalsE1_6))),
  (2446950570, 439, (.tf tapeEvalsE1_209 (.vf 159) (.tf tapeEvalsE1_210 (.vf 163) tapeEvalsE1_6))),
  (2448950576, 440, (.tf tapeEvalsE1_209 (.vf 160) (.tf tapeEvalsE1_210 (.vf 164) tapeEvalsE1_6))),
  (751347523, 441, (.tf tapeEvalsE1_212 (.vf 159) (.tf tapeEvalsE1_213 (.vf 163) tapeEvalsE1_6))),
  (753347529, 442, (.tf tapeEvalsE1_212 (.vf 160) (.tf tapeEvalsE1_213 (.vf 164) tapeEvalsE1_6)))]
set_option maxRecDepth 1000000 in
set_option maxHeartbeats 100000000 in
theorem tapeEvalsGood1 : tabGood 100 tapeEvalsNms1 = true := by kernel_rfl
end Go.Proofs.Yticbgaflhiokgaa
