/-
  'JacSums': what names stand for, where the first rest is 2.
-/
import Derived.Test.YtkaliagakdecaaaM4n
namespace Go.Proofs.Ytkaliagakdecaaa
open Go.RowKit Ex
def jse2_0 : E := (.ib .quo .i64 (.vi 0) (.li 3))
def jse2_1 : E := (.ai 9 0 (.ci (.ib .add .i64 jse2_0 (.li 0)) (.ci (.li 3) .n0)))
def jse2_2 : E := (.ib .sub .i64 (.ib .sub .i64 (.li 3) jse2_1) (.li 1))
def jse2_3 : E := (.ic .eql jse2_2 (.li 0))
def jse2_4 : E := (.i2f (.f2i (.fb .quo (.i2f (.ib .sub .i64 (.ai 9 0 (.ci (.ti (.ic .lss (.li 1) (.vl 2)) (.at 2 1) (.li 1)) (.ci (.li 65) .n0))) (.li 32))) (.lf 4620693217682128896))))
def jse2_5 : E := (.ic .eql jse2_2 (.li 1))
def jse2_6 : E := (.i2f (.f2i (.fb .quo (.i2f (.ib .sub .i64 (.ai 9 0 (.ci (.ti (.ic .lss (.li 2) (.vl 2)) (.at 2 2) (.li 2)) (.ci (.li 65) .n0))) (.li 32))) (.lf 4620693217682128896))))
def jse2_7 : E := (.i2f (.f2i (.fb .quo (.i2f (.ib .sub .i64 (.ai 9 0 (.ci (.vi 0) (.ci (.li 17) .n0))) (.li 8))) (.lf 4616189618054758400))))
def jse2_8 : E := (.tf jse2_3 jse2_4 (.tf jse2_5 jse2_6 jse2_7))
def jse2_9 : E := (.ai 9 0 (.ci (.ib .add .i64 jse2_0 (.li 2)) (.ci (.li 3) .n0)))
def jse2_10 : E := (.ib .sub .i64 (.ib .sub .i64 (.li 3) jse2_9) (.li 1))
def jse2_11 : E := (.ic .eql jse2_10 (.li 0))
def jse2_12 : E := (.ic .eql jse2_10 (.li 1))
def jse2_13 : E := (.tf jse2_11 jse2_4 (.tf jse2_12 jse2_6 jse2_7))
def jse2_14 : E := (.tf jse2_3 (.lf 0) (.tf jse2_5 (.lf 4607182418800017408) (.lf 0)))
def jse2_15 : E := (.tf jse2_11 (.lf 0) (.tf jse2_12 (.lf 4607182418800017408) (.lf 0)))
def jse2_16 : E := (.ai 9 0 (.ci (.ib .quo .i64 (.at 1 0) (.li 4)) (.ci (.li 4) .n0)))
def jse2_17 : E := (.ic .eql jse2_16 (.li 0))
def jse2_18 : E := (.i2f (.f2i (.fb .quo (.i2f (.ib .sub .i64 (.ai 9 0 (.ci (.ti (.ic .lss (.li 0) (.vl 2)) (.at 2 0) (.li 0)) (.ci (.li 65) .n0))) (.li 32))) (.lf 4620693217682128896))))
def jse2_19 : E := (.ic .eql jse2_16 (.li 1))
def jse2_20 : E := (.ic .eql jse2_16 (.li 2))
def jse2_21 : E := (.tf jse2_17 jse2_18 (.tf jse2_19 jse2_4 (.tf jse2_20 jse2_6 jse2_7)))
def jse2_22 : E := (.ai 9 0 (.ci (.ib .quo .i64 (.at 1 0) (.li 40)) (.ci (.li 4) .n0)))
def jse2_23 : E := (.ic .eql jse2_22 (.li 0))
def jse2_24 : E := (.ic .eql jse2_22 (.li 1))
def jse2_25 : E := (.ic .eql jse2_22 (.li 2))
def jse2_26 : E := (.tf jse2_23 jse2_18 (.tf jse2_24 jse2_4 (.tf jse2_25 jse2_6 jse2_7)))
def jse2_27 : E := (.tf jse2_17 (.lf 0) (.tf jse2_19 (.lf 0) (.tf jse2_20 (.lf 4607182418800017408) (.lf 0))))
def jse2_28 : E := (.tf jse2_23 (.lf 0) (.tf jse2_24 (.lf 0) (.tf jse2_25 (.lf 4607182418800017408) (.lf 0))))
def jse2_29 : E := (.tf jse2_17 (.lf 4607182418800017408) (.lf 0))
def jse2_30 : E := (.tf jse2_23 (.lf 4607182418800017408) (.lf 0))
def jse2_31 : E := (.tf jse2_17 (.lf 0) (.tf jse2_19 (.lf 4607182418800017408) (.lf 0)))
def jse2_32 : E := (.tf jse2_23 (.lf 0) (.tf jse2_24 (.lf 4607182418800017408) (.lf 0)))
def jse2_33 : E := (.ib .sub .i64 (.ib .sub .i64 (.li 4) jse2_1) (.li 2))
def jse2_34 : E := (.ic .eql jse2_33 (.li 0))
def jse2_35 : E := (.ic .eql jse2_33 (.li 1))
def jse2_36 : E := (.ic .eql (.ai 9 0 (.ci (.at 1 0) (.ci (.li 11) .n0))) (.li 0))
def jse2_37 : E := (.ib .add .i64 (.li 2) (.ai 9 0 (.ci (.at 1 0) (.ci (.li 3) .n0))))
def jse2_38 : E := (.ic .eql jse2_37 (.li 2))
def jse2_39 : E := (.ic .eql jse2_37 (.li 3))
def jse2_40 : E := (.tf jse2_36 (.i2f (.f2i (.fb .quo (.i2f (.ib .sub .i64 (.ai 9 0 (.ci (.ib .quo .i64 (.at 1 0) (.li 11)) (.ci (.li 33) .n0))) (.li 16))) (.lf 4620693217682128896)))) (.tf jse2_38 (.vf 104) (.tf jse2_39 (.vf 106) (.vf 108))))
def jse2_41 : E := (.tf jse2_34 jse2_6 (.tf jse2_35 jse2_7 jse2_40))
def jse2_42 : E := (.ib .sub .i64 (.ib .sub .i64 (.li 4) jse2_9) (.li 2))
def jse2_43 : E := (.ic .eql jse2_42 (.li 0))
def jse2_44 : E := (.ic .eql jse2_42 (.li 1))
def jse2_45 : E := (.tf jse2_43 jse2_6 (.tf jse2_44 jse2_7 jse2_40))
def jse2_46 : E := (.tf jse2_36 (.lf 0) (.tf jse2_38 (.fb .add jse2_29 jse2_30) (.tf jse2_39 (.fb .sub jse2_29 jse2_30) (.fb .add (.vf 109) (.vf 110)))))
def jse2_47 : E := (.tf jse2_34 (.lf 0) (.tf jse2_35 (.lf 0) jse2_46))
def jse2_48 : E := (.tf jse2_43 (.lf 0) (.tf jse2_44 (.lf 0) jse2_46))
def jse2_49 : E := (.tf jse2_36 (.lf 0) (.tf jse2_38 (.fb .add jse2_31 jse2_32) (.tf jse2_39 (.fb .sub jse2_31 jse2_32) (.fb .add (.vf 111) (.vf 112)))))
def jse2_50 : E := (.tf jse2_34 (.lf 0) (.tf jse2_35 (.lf 0) jse2_49))
def jse2_51 : E := (.tf jse2_43 (.lf 0) (.tf jse2_44 (.lf 0) jse2_49))
def jse2_52 : E := (.tf jse2_36 (.lf 0) (.tf jse2_38 (.vf 105) (.tf jse2_39 (.vf 107) (.fb .add (.vf 113) (.vf 114)))))
def jse2_53 : E := (.tf jse2_34 (.lf 4607182418800017408) (.tf jse2_35 (.lf 0) jse2_52))
def jse2_54 : E := (.tf jse2_43 (.lf 4607182418800017408) (.tf jse2_44 (.lf 0) jse2_52))
def jse2_55 : E := (.ai 9 0 (.ci (.ib .quo .i64 (.at 1 1) (.li 4)) (.ci (.li 5) .n0)))
def jse2_56 : E := (.ic .eql jse2_55 (.li 0))
def jse2_57 : E := (.ic .eql jse2_55 (.li 1))
def jse2_58 : E := (.ic .eql jse2_55 (.li 2))
def jse2_59 : E := (.ic .eql jse2_55 (.li 3))
def jse2_60 : E := (.tf jse2_56 jse2_18 (.tf jse2_57 jse2_4 (.tf jse2_58 jse2_6 (.tf jse2_59 jse2_7 jse2_40))))
def jse2_61 : E := (.ai 9 0 (.ci (.ib .quo .i64 (.at 1 1) (.li 40)) (.ci (.li 5) .n0)))
def jse2_62 : E := (.ic .eql jse2_61 (.li 0))
def jse2_63 : E := (.ic .eql jse2_61 (.li 1))
def jse2_64 : E := (.ic .eql jse2_61 (.li 2))
def jse2_65 : E := (.ic .eql jse2_61 (.li 3))
def jse2_66 : E := (.tf jse2_62 jse2_18 (.tf jse2_63 jse2_4 (.tf jse2_64 jse2_6 (.tf jse2_65 jse2_7 jse2_40))))
def jse2_67 : E := (.tf jse2_56 (.lf 4607182418800017408) (.tf jse2_57 (.lf 0) (.tf jse2_58 (.lf 0) (.tf jse2_59 (.lf 0) jse2_46))))
def jse2_68 : E := (.tf jse2_62 (.lf 4607182418800017408) (.tf jse2_63 (.lf 0) (.tf jse2_64 (.lf 0) (.tf jse2_65 (.lf 0) jse2_46))))
def jse2_69 : E := (.tf jse2_56 (.lf 0) (.tf jse2_57 (.lf 4607182418800017408) (.tf jse2_58 (.lf 0) (.tf jse2_59 (.lf 0) jse2_49))))
def jse2_70 : E := (.tf jse2_62 (.lf 0) (.tf jse2_63 (.lf 4607182418800017408) (.tf jse2_64 (.lf 0) (.tf jse2_65 (.lf 0) jse2_49))))
def jse2_71 : E := (.tf jse2_56 (.lf 0) (.tf jse2_57 (.lf 0) (.tf jse2_58 (.lf 4607182418800017408) (.tf jse2_59 (.lf 0) jse2_52))))
def jse2_72 : E := (.tf jse2_62 (.lf 0) (.tf jse2_63 (.lf 0) (.tf jse2_64 (.lf 4607182418800017408) (.tf jse2_65 (.lf 0) jse2_52))))
def jse2_73 : E := (.ib .sub .i64 (.ib .sub .i64 (.li 5) jse2_1) (.li 3))
def jse2_74 : E := (.ic .eql jse2_73 (.li 0))
def jse2_75 : E := (.ic .eql jse2_73 (.li 1))
def jse2_76 : E := (.ic .eql (.ai 9 0 (.ci (.at 1 1) (.ci (.li 11) .n0))) (.li 0))
def jse2_77 : E := (.ib .add .i64 (.li 2) (.ai 9 0 (.ci (.at 1 1) (.ci (.li 3) .n0))))
def jse2_78 : E := (.ic .eql jse2_77 (.li 2))
def jse2_79 : E := (.ic .eql jse2_77 (.li 3))
def jse2_80 : E := (.tf jse2_76 (.i2f (.f2i (.fb .quo (.i2f (.ib .sub .i64 (.ai 9 0 (.ci (.ib .quo .i64 (.at 1 1) (.li 11)) (.ci (.li 33) .n0))) (.li 16))) (.lf 4620693217682128896)))) (.tf jse2_78 (.vf 123) (.tf jse2_79 (.vf 127) (.vf 131))))
def jse2_81 : E := (.ai 9 0 (.ci (.ib .add .i64 jse2_0 (.li 1)) (.ci (.li 3) .n0)))
def jse2_82 : E := (.ib .sub .i64 (.ib .sub .i64 (.li 5) jse2_81) (.li 3))
def jse2_83 : E := (.ib .sub .i64 (.ib .sub .i64 (.li 5) jse2_9) (.li 3))
def jse2_84 : E := (.ic .eql jse2_83 (.li 0))
def jse2_85 : E := (.ic .eql jse2_83 (.li 1))
def jse2_86 : E := (.tf jse2_76 (.lf 0) (.tf jse2_78 (.vf 124) (.tf jse2_79 (.vf 128) (.fb .add (.vf 132) (.vf 133)))))
def jse2_87 : E := (.tf jse2_76 (.lf 0) (.tf jse2_78 (.vf 125) (.tf jse2_79 (.vf 129) (.fb .add (.vf 134) (.vf 135)))))
def jse2_88 : E := (.tf jse2_76 (.lf 0) (.tf jse2_78 (.vf 126) (.tf jse2_79 (.vf 130) (.fb .add (.vf 136) (.vf 137)))))
def jse2_89 : E := (.ai 9 0 (.ci (.ib .quo .i64 (.at 1 2) (.li 4)) (.ci (.li 6) .n0)))
def jse2_90 : E := (.ic .eql jse2_89 (.li 0))
def jse2_91 : E := (.ic .eql jse2_89 (.li 1))
def jse2_92 : E := (.ic .eql jse2_89 (.li 2))
def jse2_93 : E := (.ic .eql jse2_89 (.li 3))
def jse2_94 : E := (.ic .eql jse2_89 (.li 4))
def jse2_95 : E := (.ai 9 0 (.ci (.ib .quo .i64 (.at 1 2) (.li 40)) (.ci (.li 6) .n0)))
def jse2_96 : E := (.ic .eql jse2_95 (.li 0))
def jse2_97 : E := (.ic .eql jse2_95 (.li 1))
def jse2_98 : E := (.ic .eql jse2_95 (.li 2))
def jse2_99 : E := (.ic .eql jse2_95 (.li 3))
def jse2_100 : E := (.ic .eql jse2_95 (.li 4))
def jse2_101 : E := (.ib .sub .i64 (.ib .sub .i64 (.li 6) jse2_1) (.li 4))
def jse2_102 : E := (.ic .eql jse2_101 (.li 0))
def jse2_103 : E := (.ic .eql jse2_101 (.li 1))
def jse2_104 : E := (.ic .eql (.ai 9 0 (.ci (.at 1 2) (.ci (.li 11) .n0))) (.li 0))
def jse2_105 : E := (.ib .add .i64 (.li 2) (.ai 9 0 (.ci (.at 1 2) (.ci (.li 3) .n0))))
def jse2_106 : E := (.ic .eql jse2_105 (.li 2))
def jse2_107 : E := (.ic .eql jse2_105 (.li 3))
def jse2_108 : E := (.tf jse2_104 (.i2f (.f2i (.fb .quo (.i2f (.ib .sub .i64 (.ai 9 0 (.ci (.ib .quo .i64 (.at 1 2) (.li 11)) (.ci (.li 33) .n0))) (.li 16))) (.lf 4620693217682128896)))) (.tf jse2_106 (.fb .add (.vf 147) (.vf 148)) (.tf jse2_107 (.fb .sub (.vf 147) (.vf 148)) (.fb .mul (.vf 147) (.vf 148)))))
def jse2_109 : E := (.ib .sub .i64 (.ib .sub .i64 (.li 6) jse2_81) (.li 4))
def jse2_110 : E := (.ib .sub .i64 (.ib .sub .i64 (.li 6) jse2_9) (.li 4))
def jse2_111 : E := (.ic .eql jse2_110 (.li 0))
def jse2_112 : E := (.ic .eql jse2_110 (.li 1))
def jse2_113 : E := (.tf jse2_104 (.lf 0) (.tf jse2_106 (.fb .add (.vf 149) (.vf 150)) (.tf jse2_107 (.fb .sub (.vf 149) (.vf 150)) (.fb .add (.fb .mul (.vf 149) (.vf 148)) (.fb .mul (.vf 147) (.vf 150))))))
def jse2_114 : E := (.tf jse2_104 (.lf 0) (.tf jse2_106 (.fb .add (.vf 151) (.vf 152)) (.tf jse2_107 (.fb .sub (.vf 151) (.vf 152)) (.fb .add (.fb .mul (.vf 151) (.vf 148)) (.fb .mul (.vf 147) (.vf 152))))))
def jse2_115 : E := (.tf jse2_104 (.lf 0) (.tf jse2_106 (.fb .add (.vf 153) (.vf 154)) (.tf jse2_107 (.fb .sub (.vf 153) (.vf 154)) (.fb .add (.fb .mul (.vf 153) (.vf 148)) (.fb .mul (.vf 147) (.vf 154))))))
def jse2_116 : E := (.ai 9 0 (.ci (.ib .quo .i64 (.at 1 3) (.li 4)) (.ci (.li 7) .n0)))
def jse2_117 : E := (.ic .eql jse2_116 (.li 0))
def jse2_118 : E := (.ic .eql jse2_116 (.li 1))
def jse2_119 : E := (.ic .eql jse2_116 (.li 2))
def jse2_120 : E := (.ic .eql jse2_116 (.li 3))
def jse2_121 : E := (.ic .eql jse2_116 (.li 4))
def jse2_122 : E := (.ic .eql jse2_116 (.li 5))
def jse2_123 : E := (.ai 9 0 (.ci (.ib .quo .i64 (.at 1 3) (.li 40)) (.ci (.li 7) .n0)))
def jse2_124 : E := (.ic .eql jse2_123 (.li 0))
def jse2_125 : E := (.ic .eql jse2_123 (.li 1))
def jse2_126 : E := (.ic .eql jse2_123 (.li 2))
def jse2_127 : E := (.ic .eql jse2_123 (.li 3))
def jse2_128 : E := (.ic .eql jse2_123 (.li 4))
def jse2_129 : E := (.ic .eql jse2_123 (.li 5))
def jse2_130 : E := (.ib .sub .i64 (.ib .sub .i64 (.li 7) jse2_1) (.li 5))
def jse2_131 : E := (.ic .eql jse2_130 (.li 0))
def jse2_132 : E := (.ic .eql jse2_130 (.li 1))
def jse2_133 : E := (.ic .eql (.ai 9 0 (.ci (.at 1 3) (.ci (.li 11) .n0))) (.li 0))
def jse2_134 : E := (.ib .add .i64 (.li 2) (.ai 9 0 (.ci (.at 1 3) (.ci (.li 3) .n0))))
def jse2_135 : E := (.ic .eql jse2_134 (.li 2))
def jse2_136 : E := (.ic .eql jse2_134 (.li 3))
def jse2_137 : E := (.tf jse2_133 (.i2f (.f2i (.fb .quo (.i2f (.ib .sub .i64 (.ai 9 0 (.ci (.ib .quo .i64 (.at 1 3) (.li 11)) (.ci (.li 33) .n0))) (.li 16))) (.lf 4620693217682128896)))) (.tf jse2_135 (.fb .add (.vf 164) (.vf 165)) (.tf jse2_136 (.fb .sub (.vf 164) (.vf 165)) (.fb .mul (.vf 164) (.vf 165)))))
def jse2_138 : E := (.ib .sub .i64 (.ib .sub .i64 (.li 7) jse2_81) (.li 5))
def jse2_139 : E := (.ib .sub .i64 (.ib .sub .i64 (.li 7) jse2_9) (.li 5))
def jse2_140 : E := (.ic .eql jse2_139 (.li 0))
def jse2_141 : E := (.ic .eql jse2_139 (.li 1))
def jse2_142 : E := (.tf jse2_133 (.lf 0) (.tf jse2_135 (.fb .add (.vf 166) (.vf 167)) (.tf jse2_136 (.fb .sub (.vf 166) (.vf 167)) (.fb .add (.fb .mul (.vf 166) (.vf 165)) (.fb .mul (.vf 164) (.vf 167))))))
def jse2_143 : E := (.tf jse2_133 (.lf 0) (.tf jse2_135 (.fb .add (.vf 168) (.vf 169)) (.tf jse2_136 (.fb .sub (.vf 168) (.vf 169)) (.fb .add (.fb .mul (.vf 168) (.vf 165)) (.fb .mul (.vf 164) (.vf 169))))))
def jse2_144 : E := (.tf jse2_133 (.lf 0) (.tf jse2_135 (.fb .add (.vf 170) (.vf 171)) (.tf jse2_136 (.fb .sub (.vf 170) (.vf 171)) (.fb .add (.fb .mul (.vf 170) (.vf 165)) (.fb .mul (.vf 164) (.vf 171))))))
def jse2_145 : E := (.ai 9 0 (.ci (.ib .quo .i64 (.at 1 4) (.li 4)) (.ci (.li 8) .n0)))
def jse2_146 : E := (.ic .eql jse2_145 (.li 0))
def jse2_147 : E := (.ic .eql jse2_145 (.li 1))
def jse2_148 : E := (.ic .eql jse2_145 (.li 2))
def jse2_149 : E := (.ic .eql jse2_145 (.li 3))
def jse2_150 : E := (.ic .eql jse2_145 (.li 4))
def jse2_151 : E := (.ic .eql jse2_145 (.li 5))
def jse2_152 : E := (.ic .eql jse2_145 (.li 6))
def jse2_153 : E := (.ai 9 0 (.ci (.ib .quo .i64 (.at 1 4) (.li 40)) (.ci (.li 8) .n0)))
def jse2_154 : E := (.ic .eql jse2_153 (.li 0))
def jse2_155 : E := (.ic .eql jse2_153 (.li 1))
def jse2_156 : E := (.ic .eql jse2_153 (.li 2))
def jse2_157 : E := (.ic .eql jse2_153 (.li 3))
def jse2_158 : E := (.ic .eql jse2_153 (.li 4))
def jse2_159 : E := (.ic .eql jse2_153 (.li 5))
def jse2_160 : E := (.ic .eql jse2_153 (.li 6))
def jse2_161 : E := (.ib .sub .i64 (.ib .sub .i64 (.li 8) jse2_1) (.li 6))
def jse2_162 : E := (.ic .eql jse2_161 (.li 0))
def jse2_163 : E := (.ic .eql jse2_161 (.li 1))
def jse2_164 : E := (.ic .eql (.ai 9 0 (.ci (.at 1 4) (.ci (.li 11) .n0))) (.li 0))
def jse2_165 : E := (.ib .add .i64 (.li 2) (.ai 9 0 (.ci (.at 1 4) (.ci (.li 3) .n0))))
def jse2_166 : E := (.ic .eql jse2_165 (.li 2))
def jse2_167 : E := (.ic .eql jse2_165 (.li 3))
def jse2_168 : E := (.tf jse2_164 (.i2f (.f2i (.fb .quo (.i2f (.ib .sub .i64 (.ai 9 0 (.ci (.ib .quo .i64 (.at 1 4) (.li 11)) (.ci (.li 33) .n0))) (.li 16))) (.lf 4620693217682128896)))) (.tf jse2_166 (.fb .add (.vf 181) (.vf 182)) (.tf jse2_167 (.fb .sub (.vf 181) (.vf 182)) (.fb .mul (.vf 181) (.vf 182)))))
def jse2_169 : E := (.ib .sub .i64 (.ib .sub .i64 (.li 8) jse2_81) (.li 6))
def jse2_170 : E := (.ib .sub .i64 (.ib .sub .i64 (.li 8) jse2_9) (.li 6))
def jse2_171 : E := (.ic .eql jse2_170 (.li 0))
def jse2_172 : E := (.ic .eql jse2_170 (.li 1))
def jse2_173 : E := (.tf jse2_164 (.lf 0) (.tf jse2_166 (.fb .add (.vf 183) (.vf 184)) (.tf jse2_167 (.fb .sub (.vf 183) (.vf 184)) (.fb .add (.fb .mul (.vf 183) (.vf 182)) (.fb .mul (.vf 181) (.vf 184))))))
def jse2_174 : E := (.tf jse2_164 (.lf 0) (.tf jse2_166 (.fb .add (.vf 185) (.vf 186)) (.tf jse2_167 (.fb .sub (.vf 185) (.vf 186)) (.fb .add (.fb .mul (.vf 185) (.vf 182)) (.fb .mul (.vf 181) (.vf 186))))))
def jse2_175 : E := (.tf jse2_164 (.lf 0) (.tf jse2_166 (.fb .add (.vf 187) (.vf 188)) (.tf jse2_167 (.fb .sub (.vf 187) (.vf 188)) (.fb .add (.fb .mul (.vf 187) (.vf 182)) (.fb .mul (.vf 181) (.vf 188))))))
def jse2_176 : E := (.ai 9 0 (.ci (.ib .quo .i64 (.at 1 5) (.li 4)) (.ci (.li 9) .n0)))
def jse2_177 : E := (.ic .eql jse2_176 (.li 0))
def jse2_178 : E := (.ic .eql jse2_176 (.li 1))
def jse2_179 : E := (.ic .eql jse2_176 (.li 2))
def jse2_180 : E := (.ic .eql jse2_176 (.li 3))
def jse2_181 : E := (.ic .eql jse2_176 (.li 4))
def jse2_182 : E := (.ic .eql jse2_176 (.li 5))
def jse2_183 : E := (.ic .eql jse2_176 (.li 6))
def jse2_184 : E := (.ic .eql jse2_176 (.li 7))
def jse2_185 : E := (.ai 9 0 (.ci (.ib .quo .i64 (.at 1 5) (.li 40)) (.ci (.li 9) .n0)))
def jse2_186 : E := (.ic .eql jse2_185 (.li 0))
def jse2_187 : E := (.ic .eql jse2_185 (.li 1))
def jse2_188 : E := (.ic .eql jse2_185 (.li 2))
def jse2_189 : E := (.ic .eql jse2_185 (.li 3))
def jse2_190 : E := (.ic .eql jse2_185 (.li 4))
def jse2_191 : E := (.ic .eql jse2_185 (.li 5))
def jse2_192 : E := (.ic .eql jse2_185 (.li 6))
def jse2_193 : E := (.ic .eql jse2_185 (.li 7))
def jse2_194 : E := (.ib .sub .i64 (.ib .sub .i64 (.li 9) jse2_1) (.li 7))
def jse2_195 : E := (.ic .eql jse2_194 (.li 0))
def jse2_196 : E := (.ic .eql jse2_194 (.li 1))
def jse2_197 : E := (.ic .eql (.ai 9 0 (.ci (.at 1 5) (.ci (.li 11) .n0))) (.li 0))
def jse2_198 : E := (.ib .add .i64 (.li 2) (.ai 9 0 (.ci (.at 1 5) (.ci (.li 3) .n0))))
def jse2_199 : E := (.ic .eql jse2_198 (.li 2))
def jse2_200 : E := (.ic .eql jse2_198 (.li 3))
def jse2_201 : E := (.tf jse2_197 (.i2f (.f2i (.fb .quo (.i2f (.ib .sub .i64 (.ai 9 0 (.ci (.ib .quo .i64 (.at 1 5) (.li 11)) (.ci (.li 33) .n0))) (.li 16))) (.lf 4620693217682128896)))) (.tf jse2_199 (.fb .add (.vf 198) (.vf 199)) (.tf jse2_200 (.fb .sub (.vf 198) (.vf 199)) (.fb .mul (.vf 198) (.vf 199)))))
def jse2_202 : E := (.ib .sub .i64 (.ib .sub .i64 (.li 9) jse2_81) (.li 7))
def jse2_203 : E := (.ib .sub .i64 (.ib .sub .i64 (.li 9) jse2_9) (.li 7))
def jse2_204 : E := (.ic .eql jse2_203 (.li 0))
def jse2_205 : E := (.ic .eql jse2_203 (.li 1))
def jse2_206 : E := (.tf jse2_197 (.lf 0) (.tf jse2_199 (.fb .add (.vf 200) (.vf 201)) (.tf jse2_200 (.fb .sub (.vf 200) (.vf 201)) (.fb .add (.fb .mul (.vf 200) (.vf 199)) (.fb .mul (.vf 198) (.vf 201))))))
def jse2_207 : E := (.tf jse2_197 (.lf 0) (.tf jse2_199 (.fb .add (.vf 202) (.vf 203)) (.tf jse2_200 (.fb .sub (.vf 202) (.vf 203)) (.fb .add (.fb .mul (.vf 202) (.vf 199)) (.fb .mul (.vf 198) (.vf 203))))))
def jse2_208 : E := (.tf jse2_197 (.lf 0) (.tf jse2_199 (.fb .add (.vf 204) (.vf 205)) (.tf jse2_200 (.fb .sub (.vf 204) (.vf 205)) (.fb .add (.fb .mul (.vf 204) (.vf 199)) (.fb .mul (.vf 198) (.vf 205))))))
def jse2_209 : E := (.ai 9 0 (.ci (.ib .quo .i64 (.at 1 6) (.li 4)) (.ci (.li 10) .n0)))
def jse2_210 : E := (.ic .eql jse2_209 (.li 0))
def jse2_211 : E := (.ic .eql jse2_209 (.li 1))
def jse2_212 : E := (.ic .eql jse2_209 (.li 2))
def jse2_213 : E := (.ic .eql jse2_209 (.li 3))
def jse2_214 : E := (.ic .eql jse2_209 (.li 4))
def jse2_215 : E := (.ic .eql jse2_209 (.li 5))
def jse2_216 : E := (.ic .eql jse2_209 (.li 6))
def jse2_217 : E := (.ic .eql jse2_209 (.li 7))
def jse2_218 : E := (.ic .eql jse2_209 (.li 8))
def jse2_219 : E := (.ai 9 0 (.ci (.ib .quo .i64 (.at 1 6) (.li 40)) (.ci (.li 10) .n0)))
def jse2_220 : E := (.ic .eql jse2_219 (.li 0))
def jse2_221 : E := (.ic .eql jse2_219 (.li 1))
def jse2_222 : E := (.ic .eql jse2_219 (.li 2))
def jse2_223 : E := (.ic .eql jse2_219 (.li 3))
def jse2_224 : E := (.ic .eql jse2_219 (.li 4))
def jse2_225 : E := (.ic .eql jse2_219 (.li 5))
def jse2_226 : E := (.ic .eql jse2_219 (.li 6))
def jse2_227 : E := (.ic .eql jse2_219 (.li 7))
def jse2_228 : E := (.ic .eql jse2_219 (.li 8))
def jse2_229 : E := (.ib .sub .i64 (.ib .sub .i64 (.li 10) jse2_1) (.li 8))
def jse2_230 : E := (.ic .eql jse2_229 (.li 0))
def jse2_231 : E := (.ic .eql jse2_229 (.li 1))
def jse2_232 : E := (.ic .eql (.ai 9 0 (.ci (.at 1 6) (.ci (.li 11) .n0))) (.li 0))
def jse2_233 : E := (.ib .add .i64 (.li 2) (.ai 9 0 (.ci (.at 1 6) (.ci (.li 3) .n0))))
def jse2_234 : E := (.ic .eql jse2_233 (.li 2))
def jse2_235 : E := (.ic .eql jse2_233 (.li 3))
def jse2_236 : E := (.tf jse2_232 (.i2f (.f2i (.fb .quo (.i2f (.ib .sub .i64 (.ai 9 0 (.ci (.ib .quo .i64 (.at 1 6) (.li 11)) (.ci (.li 33) .n0))) (.li 16))) (.lf 4620693217682128896)))) (.tf jse2_234 (.fb .add (.vf 215) (.vf 216)) (.tf jse2_235 (.fb .sub (.vf 215) (.vf 216)) (.fb .mul (.vf 215) (.vf 216)))))
def jse2_237 : E := (.ib .sub .i64 (.ib .sub .i64 (.li 10) jse2_81) (.li 8))
def jse2_238 : E := (.ib .sub .i64 (.ib .sub .i64 (.li 10) jse2_9) (.li 8))
def jse2_239 : E := (.ic .eql jse2_238 (.li 0))
def jse2_240 : E := (.ic .eql jse2_238 (.li 1))
def jse2_241 : E := (.tf jse2_232 (.lf 0) (.tf jse2_234 (.fb .add (.vf 217) (.vf 218)) (.tf jse2_235 (.fb .sub (.vf 217) (.vf 218)) (.fb .add (.fb .mul (.vf 217) (.vf 216)) (.fb .mul (.vf 215) (.vf 218))))))
def jse2_242 : E := (.tf jse2_232 (.lf 0) (.tf jse2_234 (.fb .add (.vf 219) (.vf 220)) (.tf jse2_235 (.fb .sub (.vf 219) (.vf 220)) (.fb .add (.fb .mul (.vf 219) (.vf 216)) (.fb .mul (.vf 215) (.vf 220))))))
def jse2_243 : E := (.tf jse2_232 (.lf 0) (.tf jse2_234 (.fb .add (.vf 221) (.vf 222)) (.tf jse2_235 (.fb .sub (.vf 221) (.vf 222)) (.fb .add (.fb .mul (.vf 221) (.vf 216)) (.fb .mul (.vf 215) (.vf 222))))))
def jse2_244 : E := (.ai 9 0 (.ci (.ib .quo .i64 (.at 1 7) (.li 4)) (.ci (.li 11) .n0)))
def jse2_245 : E := (.ic .eql jse2_244 (.li 0))
def jse2_246 : E := (.ic .eql jse2_244 (.li 1))
def jse2_247 : E := (.ic .eql jse2_244 (.li 2))
def jse2_248 : E := (.ic .eql jse2_244 (.li 3))
def jse2_249 : E := (.ic .eql jse2_244 (.li 4))
def jse2_250 : E := (.ic .eql jse2_244 (.li 5))
def jse2_251 : E := (.ic .eql jse2_244 (.li 6))
def jse2_252 : E := (.ic .eql jse2_244 (.li 7))
def jse2_253 : E := (.ic .eql jse2_244 (.li 8))
def jse2_254 : E := (.ic .eql jse2_244 (.li 9))
def jse2_255 : E := (.ai 9 0 (.ci (.ib .quo .i64 (.at 1 7) (.li 40)) (.ci (.li 11) .n0)))
def jse2_256 : E := (.ic .eql jse2_255 (.li 0))
def jse2_257 : E := (.ic .eql jse2_255 (.li 1))
def jse2_258 : E := (.ic .eql jse2_255 (.li 2))
def jse2_259 : E := (.ic .eql jse2_255 (.li 3))
def jse2_260 : E := (.ic .eql jse2_255 (.li 4))
def jse2_261 : E := (.ic .eql jse2_255 (.li 5))
def jse2_262 : E := (.ic .eql jse2_255 (.li 6))
def jse2_263 : E := (.ic .eql jse2_255 (.li 7))
def jse2_264 : E := (.ic .eql jse2_255 (.li 8))
def jse2_265 : E := (.ic .eql jse2_255 (.li 9))
def jse2_266 : E := (.ib .sub .i64 (.ib .sub .i64 (.li 11) jse2_1) (.li 9))
def jse2_267 : E := (.ic .eql jse2_266 (.li 0))
def jse2_268 : E := (.ic .eql jse2_266 (.li 1))
def jse2_269 : E := (.ic .eql (.ai 9 0 (.ci (.at 1 7) (.ci (.li 11) .n0))) (.li 0))
def jse2_270 : E := (.ib .add .i64 (.li 2) (.ai 9 0 (.ci (.at 1 7) (.ci (.li 3) .n0))))
def jse2_271 : E := (.ic .eql jse2_270 (.li 2))
def jse2_272 : E := (.ic .eql jse2_270 (.li 3))
def jse2_273 : E := (.tf jse2_269 (.i2f (.f2i (.fb .quo (.i2f (.ib .sub .i64 (.ai 9 0 (.ci (.ib .quo .i64 (.at 1 7) (.li 11)) (.ci (.li 33) .n0))) (.li 16))) (.lf 4620693217682128896)))) (.tf jse2_271 (.fb .add (.vf 232) (.vf 233)) (.tf jse2_272 (.fb .sub (.vf 232) (.vf 233)) (.fb .mul (.vf 232) (.vf 233)))))
def jse2_274 : E := (.ib .sub .i64 (.ib .sub .i64 (.li 11) jse2_81) (.li 9))
def jse2_275 : E := (.ib .sub .i64 (.ib .sub .i64 (.li 11) jse2_9) (.li 9))
def jse2_276 : E := (.ic .eql jse2_275 (.li 0))
def jse2_277 : E := (.ic .eql jse2_275 (.li 1))
def jse2_278 : E := (.tf jse2_269 (.lf 0) (.tf jse2_271 (.fb .add (.vf 234) (.vf 235)) (.tf jse2_272 (.fb .sub (.vf 234) (.vf 235)) (.fb .add (.fb .mul (.vf 234) (.vf 233)) (.fb .mul (.vf 232) (.vf 235))))))
def jse2_279 : E := (.tf jse2_269 (.lf 0) (.tf jse2_271 (.fb .add (.vf 236) (.vf 237)) (.tf jse2_272 (.fb .sub (.vf 236) (.vf 237)) (.fb .add (.fb .mul (.vf 236) (.vf 233)) (.fb .mul (.vf 232) (.vf 237))))))
def jse2_280 : E := (.tf jse2_269 (.lf 0) (.tf jse2_271 (.fb .add (.vf 238) (.vf 239)) (.tf jse2_272 (.fb .sub (.vf 238) (.vf 239)) (.fb .add (.fb .mul (.vf 238) (.vf 233)) (.fb .mul (.vf 232) (.vf 239))))))
def jsN2 : Nms := [(1036030903, 100, (.fb .sub jse2_8 jse2_13)),
  (3808995559, 101, (.fb .sub jse2_14 jse2_15)),
  (1757409697, 102, (.fb .add jse2_8 jse2_13)),
  (235407062, 103, (.fb .add jse2_14 jse2_15)),
  (1954166451, 104, (.fb .add jse2_21 jse2_26)),
  (4049083810, 105, (.fb .add jse2_27 jse2_28)),
  (1232787657, 106, (.fb .sub jse2_21 jse2_26)),
  (3327705016, 107, (.fb .sub jse2_27 jse2_28)),
  (511408863, 108, (.fb .mul jse2_21 jse2_26)),
  (1687332978, 109, (.fb .mul jse2_29 jse2_26)),
  (3259627716, 110, (.fb .mul jse2_21 jse2_30)),
  (533159711, 111, (.fb .mul jse2_31 jse2_26)),
  (325023349, 112, (.fb .mul jse2_21 jse2_32)),
  (2875106400, 113, (.fb .mul jse2_27 jse2_26)),
  (242628685, 114, (.fb .mul jse2_21 jse2_28)),
  (107166977, 115, (.fb .sub jse2_41 jse2_45)),
  (2200681801, 116, (.fb .sub jse2_47 jse2_48)),
  (236058002, 117, (.fb .sub jse2_50 jse2_51)),
  (1507598901, 118, (.fb .sub jse2_53 jse2_54)),
  (828545771, 119, (.fb .add jse2_41 jse2_45)),
  (2922060595, 120, (.fb .add jse2_47 jse2_48)),
  (957436796, 121, (.fb .add jse2_50 jse2_51)),
  (2228977695, 122, (.fb .add jse2_53 jse2_54)),
  (341567638, 123, (.fb .add jse2_60 jse2_66)),
  (1402231355, 124, (.fb .add jse2_67 jse2_68)),
  (3732574847, 125, (.fb .add jse2_69 jse2_70)),
  (1378768084, 126, (.fb .add jse2_71 jse2_72)),
  (3915156135, 127, (.fb .sub jse2_60 jse2_66)),
  (680852561, 128, (.fb .sub jse2_67 jse2_68)),
  (3011196053, 129, (.fb .sub jse2_69 jse2_70)),
  (657389290, 130, (.fb .sub jse2_71 jse2_72)),
  (3193777341, 131, (.fb .mul jse2_60 jse2_66)),
  (1180350930, 132, (.fb .mul jse2_67 jse2_66)),
  (1972900178, 133, (.fb .mul jse2_60 jse2_68)),
  (4242001837, 134, (.fb .mul jse2_69 jse2_66)),
  (1241592763, 135, (.fb .mul jse2_60 jse2_70)),
  (2766991465, 136, (.fb .mul jse2_71 jse2_66)),
  (362796372, 137, (.fb .mul jse2_60 jse2_72)),
  (1071812640, 138, (.tf jse2_74 jse2_7 (.tf jse2_75 jse2_40 jse2_80))),
  (3074817389, 139, (.tf (.ic .eql jse2_82 (.li 0)) jse2_7 (.tf (.ic .eql jse2_82 (.li 1)) jse2_40 jse2_80))),
  (782854847, 140, (.tf jse2_84 jse2_7 (.tf jse2_85 jse2_40 jse2_80))),
  (2485634076, 141, (.tf jse2_74 (.lf 0) (.tf jse2_75 jse2_46 jse2_86))),
  (2196676283, 142, (.tf jse2_84 (.lf 0) (.tf jse2_85 jse2_46 jse2_86))),
  (1256317706, 143, (.tf jse2_74 (.lf 0) (.tf jse2_75 jse2_49 jse2_87))),
  (967359913, 144, (.tf jse2_84 (.lf 0) (.tf jse2_85 jse2_49 jse2_87))),
  (4080274639, 145, (.tf jse2_74 (.lf 0) (.tf jse2_75 jse2_52 jse2_88))),
  (3791316846, 146, (.tf jse2_84 (.lf 0) (.tf jse2_85 jse2_52 jse2_88))),
  (584739034, 147, (.tf jse2_90 jse2_18 (.tf jse2_91 jse2_4 (.tf jse2_92 jse2_6 (.tf jse2_93 jse2_7 (.tf jse2_94 jse2_40 jse2_80)))))),
  (2599287280, 148, (.tf jse2_96 jse2_18 (.tf jse2_97 jse2_4 (.tf jse2_98 jse2_6 (.tf jse2_99 jse2_7 (.tf jse2_100 jse2_40 jse2_80)))))),
  (3225765430, 149, (.tf jse2_90 (.lf 4607182418800017408) (.tf jse2_91 (.lf 0) (.tf jse2_92 (.lf 0) (.tf jse2_93 (.lf 0) (.tf jse2_94 jse2_46 jse2_86)))))),
  (945346385, 150, (.tf jse2_96 (.lf 4607182418800017408) (.tf jse2_97 (.lf 0) (.tf jse2_98 (.lf 0) (.tf jse2_99 (.lf 0) (.tf jse2_100 jse2_46 jse2_86)))))),
  (1996449060, 151, (.tf jse2_90 (.lf 0) (.tf jse2_91 (.lf 4607182418800017408) (.tf jse2_92 (.lf 0) (.tf jse2_93 (.lf 0) (.tf jse2_94 jse2_49 jse2_87)))))),
  (4010997306, 152, (.tf jse2_96 (.lf 0) (.tf jse2_97 (.lf 4607182418800017408) (.tf jse2_98 (.lf 0) (.tf jse2_99 (.lf 0) (.tf jse2_100 jse2_49 jse2_87)))))),
  (525438702, 153, (.tf jse2_90 (.lf 0) (.tf jse2_91 (.lf 0) (.tf jse2_92 (.lf 4607182418800017408) (.tf jse2_93 (.lf 0) (.tf jse2_94 jse2_52 jse2_88)))))),
  (2539986948, 154, (.tf jse2_96 (.lf 0) (.tf jse2_97 (.lf 0) (.tf jse2_98 (.lf 4607182418800017408) (.tf jse2_99 (.lf 0) (.tf jse2_100 jse2_52 jse2_88)))))),
  (2896365998, 155, (.tf jse2_102 jse2_40 (.tf jse2_103 jse2_80 jse2_108))),
  (604403456, 156, (.tf (.ic .eql jse2_109 (.li 0)) jse2_40 (.tf (.ic .eql jse2_109 (.li 1)) jse2_80 jse2_108))),
  (2607408205, 157, (.tf jse2_111 jse2_40 (.tf jse2_112 jse2_80 jse2_108))),
  (3902945341, 158, (.tf jse2_102 jse2_46 (.tf jse2_103 jse2_86 jse2_113))),
  (3613987548, 159, (.tf jse2_111 jse2_46 (.tf jse2_112 jse2_86 jse2_113))),
  (4051775619, 160, (.tf jse2_102 jse2_49 (.tf jse2_103 jse2_87 jse2_114))),
  (3762817826, 161, (.tf jse2_111 jse2_49 (.tf jse2_112 jse2_87 jse2_114))),
  (3958911909, 162, (.tf jse2_102 jse2_52 (.tf jse2_103 jse2_88 jse2_115))),
  (3669954116, 163, (.tf jse2_111 jse2_52 (.tf jse2_112 jse2_88 jse2_115))),
  (546855917, 164, (.tf jse2_117 jse2_18 (.tf jse2_118 jse2_4 (.tf jse2_119 jse2_6 (.tf jse2_120 jse2_7 (.tf jse2_121 jse2_40 (.tf jse2_122 jse2_80 jse2_108))))))),
  (2105320354, 165, (.tf jse2_124 jse2_18 (.tf jse2_125 jse2_4 (.tf jse2_126 jse2_6 (.tf jse2_127 jse2_7 (.tf jse2_128 jse2_40 (.tf jse2_129 jse2_80 jse2_108))))))),
  (1801747598, 166, (.tf jse2_117 (.lf 4607182418800017408) (.tf jse2_118 (.lf 0) (.tf jse2_119 (.lf 0) (.tf jse2_120 (.lf 0) (.tf jse2_121 jse2_46 (.tf jse2_122 jse2_86 jse2_113))))))),
  (3360212035, 167, (.tf jse2_124 (.lf 4607182418800017408) (.tf jse2_125 (.lf 0) (.tf jse2_126 (.lf 0) (.tf jse2_127 (.lf 0) (.tf jse2_128 jse2_46 (.tf jse2_129 jse2_86 jse2_113))))))),
  (1950577876, 168, (.tf jse2_117 (.lf 0) (.tf jse2_118 (.lf 4607182418800017408) (.tf jse2_119 (.lf 0) (.tf jse2_120 (.lf 0) (.tf jse2_121 jse2_49 (.tf jse2_122 jse2_87 jse2_114))))))),
  (3509042313, 169, (.tf jse2_124 (.lf 0) (.tf jse2_125 (.lf 4607182418800017408) (.tf jse2_126 (.lf 0) (.tf jse2_127 (.lf 0) (.tf jse2_128 jse2_49 (.tf jse2_129 jse2_87 jse2_114))))))),
  (1857714166, 170, (.tf jse2_117 (.lf 0) (.tf jse2_118 (.lf 0) (.tf jse2_119 (.lf 4607182418800017408) (.tf jse2_120 (.lf 0) (.tf jse2_121 jse2_52 (.tf jse2_122 jse2_88 jse2_115))))))),
  (3416178603, 171, (.tf jse2_124 (.lf 0) (.tf jse2_125 (.lf 0) (.tf jse2_126 (.lf 4607182418800017408) (.tf jse2_127 (.lf 0) (.tf jse2_128 jse2_52 (.tf jse2_129 jse2_88 jse2_115))))))),
  (2783573596, 172, (.tf jse2_131 jse2_80 (.tf jse2_132 jse2_108 jse2_137))),
  (491611054, 173, (.tf (.ic .eql jse2_138 (.li 0)) jse2_80 (.tf (.ic .eql jse2_138 (.li 1)) jse2_108 jse2_137))),
  (2494615803, 174, (.tf jse2_140 jse2_80 (.tf jse2_141 jse2_108 jse2_137))),
  (3191748420, 175, (.tf jse2_131 jse2_86 (.tf jse2_132 jse2_113 jse2_142))),
  (2902790627, 176, (.tf jse2_140 jse2_86 (.tf jse2_141 jse2_113 jse2_142))),
  (3588805198, 177, (.tf jse2_131 jse2_87 (.tf jse2_132 jse2_114 jse2_143))),
  (3299847405, 178, (.tf jse2_140 jse2_87 (.tf jse2_141 jse2_114 jse2_143))),
  (3985861976, 179, (.tf jse2_131 jse2_88 (.tf jse2_132 jse2_115 jse2_144))),
  (3696904183, 180, (.tf jse2_140 jse2_88 (.tf jse2_141 jse2_115 jse2_144))),
  (1788498915, 181, (.tf jse2_146 jse2_18 (.tf jse2_147 jse2_4 (.tf jse2_148 jse2_6 (.tf jse2_149 jse2_7 (.tf jse2_150 jse2_40 (.tf jse2_151 jse2_80 (.tf jse2_152 jse2_108 jse2_137)))))))),
  (2890879543, 182, (.tf jse2_154 jse2_18 (.tf jse2_155 jse2_4 (.tf jse2_156 jse2_6 (.tf jse2_157 jse2_7 (.tf jse2_158 jse2_40 (.tf jse2_159 jse2_80 (.tf jse2_160 jse2_108 jse2_137)))))))),
  (882551817, 183, (.tf jse2_146 (.lf 4607182418800017408) (.tf jse2_147 (.lf 0) (.tf jse2_148 (.lf 0) (.tf jse2_149 (.lf 0) (.tf jse2_150 jse2_46 (.tf jse2_151 jse2_86 (.tf jse2_152 jse2_113 jse2_142)))))))),
  (1984932445, 184, (.tf jse2_154 (.lf 4607182418800017408) (.tf jse2_155 (.lf 0) (.tf jse2_156 (.lf 0) (.tf jse2_157 (.lf 0) (.tf jse2_158 jse2_46 (.tf jse2_159 jse2_86 (.tf jse2_160 jse2_113 jse2_142)))))))),
  (46292211, 185, (.tf jse2_146 (.lf 0) (.tf jse2_147 (.lf 4607182418800017408) (.tf jse2_148 (.lf 0) (.tf jse2_149 (.lf 0) (.tf jse2_150 jse2_49 (.tf jse2_151 jse2_87 (.tf jse2_152 jse2_114 jse2_143)))))))),
  (1148672839, 186, (.tf jse2_154 (.lf 0) (.tf jse2_155 (.lf 4607182418800017408) (.tf jse2_156 (.lf 0) (.tf jse2_157 (.lf 0) (.tf jse2_158 jse2_49 (.tf jse2_159 jse2_87 (.tf jse2_160 jse2_114 jse2_143)))))))),
  (3263305908, 187, (.tf jse2_146 (.lf 0) (.tf jse2_147 (.lf 0) (.tf jse2_148 (.lf 4607182418800017408) (.tf jse2_149 (.lf 0) (.tf jse2_150 jse2_52 (.tf jse2_151 jse2_88 (.tf jse2_152 jse2_115 jse2_144)))))))),
  (70719245, 188, (.tf jse2_154 (.lf 0) (.tf jse2_155 (.lf 0) (.tf jse2_156 (.lf 4607182418800017408) (.tf jse2_157 (.lf 0) (.tf jse2_158 jse2_52 (.tf jse2_159 jse2_88 (.tf jse2_160 jse2_115 jse2_144)))))))),
  (2624046202, 189, (.tf jse2_162 jse2_108 (.tf jse2_163 jse2_137 jse2_168))),
  (332083660, 190, (.tf (.ic .eql jse2_169 (.li 0)) jse2_108 (.tf (.ic .eql jse2_169 (.li 1)) jse2_137 jse2_168))),
  (2335088409, 191, (.tf jse2_171 jse2_108 (.tf jse2_172 jse2_137 jse2_168))),
  (1946182161, 192, (.tf jse2_162 jse2_113 (.tf jse2_163 jse2_142 jse2_173))),
  (1657224368, 193, (.tf jse2_171 jse2_113 (.tf jse2_172 jse2_142 jse2_173))),
  (4241664225, 194, (.tf jse2_162 jse2_114 (.tf jse2_163 jse2_143 jse2_174))),
  (3952706432, 195, (.tf jse2_171 jse2_114 (.tf jse2_172 jse2_143 jse2_174))),
  (2242178998, 196, (.tf jse2_162 jse2_115 (.tf jse2_163 jse2_144 jse2_175))),
  (1953221205, 197, (.tf jse2_171 jse2_115 (.tf jse2_172 jse2_144 jse2_175))),
  (1739500149, 198, (.tf jse2_177 jse2_18 (.tf jse2_178 jse2_4 (.tf jse2_179 jse2_6 (.tf jse2_180 jse2_7 (.tf jse2_181 jse2_40 (.tf jse2_182 jse2_80 (.tf jse2_183 jse2_108 (.tf jse2_184 jse2_137 jse2_168))))))))),
  (2385796968, 199, (.tf jse2_186 jse2_18 (.tf jse2_187 jse2_4 (.tf jse2_188 jse2_6 (.tf jse2_189 jse2_7 (.tf jse2_190 jse2_40 (.tf jse2_191 jse2_80 (.tf jse2_192 jse2_108 (.tf jse2_193 jse2_137 jse2_168))))))))),
  (1862088478, 200, (.tf jse2_177 (.lf 4607182418800017408) (.tf jse2_178 (.lf 0) (.tf jse2_179 (.lf 0) (.tf jse2_180 (.lf 0) (.tf jse2_181 jse2_46 (.tf jse2_182 jse2_86 (.tf jse2_183 jse2_113 (.tf jse2_184 jse2_142 jse2_173))))))))),
  (2508385297, 201, (.tf jse2_186 (.lf 4607182418800017408) (.tf jse2_187 (.lf 0) (.tf jse2_188 (.lf 0) (.tf jse2_189 (.lf 0) (.tf jse2_190 jse2_46 (.tf jse2_191 jse2_86 (.tf jse2_192 jse2_113 (.tf jse2_193 jse2_142 jse2_173))))))))),
  (40738988, 202, (.tf jse2_177 (.lf 0) (.tf jse2_178 (.lf 4607182418800017408) (.tf jse2_179 (.lf 0) (.tf jse2_180 (.lf 0) (.tf jse2_181 jse2_49 (.tf jse2_182 jse2_87 (.tf jse2_183 jse2_114 (.tf jse2_184 jse2_143 jse2_174))))))))),
  (687035807, 203, (.tf jse2_186 (.lf 0) (.tf jse2_187 (.lf 4607182418800017408) (.tf jse2_188 (.lf 0) (.tf jse2_189 (.lf 0) (.tf jse2_190 jse2_49 (.tf jse2_191 jse2_87 (.tf jse2_192 jse2_114 (.tf jse2_193 jse2_143 jse2_174))))))))),
  (2272662801, 204, (.tf jse2_177 (.lf 0) (.tf jse2_178 (.lf 0) (.tf jse2_179 (.lf 4607182418800017408) (.tf jse2_180 (.lf 0) (.tf jse2_181 jse2_52 (.tf jse2_182 jse2_88 (.tf jse2_183 jse2_115 (.tf jse2_184 jse2_144 jse2_175))))))))),
  (2918959620, 205, (.tf jse2_186 (.lf 0) (.tf jse2_187 (.lf 0) (.tf jse2_188 (.lf 4607182418800017408) (.tf jse2_189 (.lf 0) (.tf jse2_190 jse2_52 (.tf jse2_191 jse2_88 (.tf jse2_192 jse2_115 (.tf jse2_193 jse2_144 jse2_175))))))))),
  (949795805, 206, (.tf jse2_195 jse2_137 (.tf jse2_196 jse2_168 jse2_201))),
  (2952800554, 207, (.tf (.ic .eql jse2_202 (.li 0)) jse2_137 (.tf (.ic .eql jse2_202 (.li 1)) jse2_168 jse2_201))),
  (660838012, 208, (.tf jse2_204 jse2_137 (.tf jse2_205 jse2_168 jse2_201))),
  (1419682301, 209, (.tf jse2_195 jse2_142 (.tf jse2_196 jse2_173 jse2_206))),
  (1130724508, 210, (.tf jse2_204 jse2_142 (.tf jse2_205 jse2_173 jse2_206))),
  (3715164365, 211, (.tf jse2_195 jse2_143 (.tf jse2_196 jse2_174 jse2_207))),
  (3426206572, 212, (.tf jse2_204 jse2_143 (.tf jse2_205 jse2_174 jse2_207))),
  (1715679138, 213, (.tf jse2_195 jse2_144 (.tf jse2_196 jse2_175 jse2_208))),
  (1426721345, 214, (.tf jse2_204 jse2_144 (.tf jse2_205 jse2_175 jse2_208))),
  (399859619, 215, (.tf jse2_210 jse2_18 (.tf jse2_211 jse2_4 (.tf jse2_212 jse2_6 (.tf jse2_213 jse2_7 (.tf jse2_214 jse2_40 (.tf jse2_215 jse2_80 (.tf jse2_216 jse2_108 (.tf jse2_217 jse2_137 (.tf jse2_218 jse2_168 jse2_201)))))))))),
  (590072629, 216, (.tf jse2_220 jse2_18 (.tf jse2_221 jse2_4 (.tf jse2_222 jse2_6 (.tf jse2_223 jse2_7 (.tf jse2_224 jse2_40 (.tf jse2_225 jse2_80 (.tf jse2_226 jse2_108 (.tf jse2_227 jse2_137 (.tf jse2_228 jse2_168 jse2_201)))))))))),
  (445390290, 217, (.tf jse2_210 (.lf 4607182418800017408) (.tf jse2_211 (.lf 0) (.tf jse2_212 (.lf 0) (.tf jse2_213 (.lf 0) (.tf jse2_214 jse2_46 (.tf jse2_215 jse2_86 (.tf jse2_216 jse2_113 (.tf jse2_217 jse2_142 (.tf jse2_218 jse2_173 jse2_206)))))))))),
  (635603300, 218, (.tf jse2_220 (.lf 4607182418800017408) (.tf jse2_221 (.lf 0) (.tf jse2_222 (.lf 0) (.tf jse2_223 (.lf 0) (.tf jse2_224 jse2_46 (.tf jse2_225 jse2_86 (.tf jse2_226 jse2_113 (.tf jse2_227 jse2_142 (.tf jse2_228 jse2_173 jse2_206)))))))))),
  (1933918207, 219, (.tf jse2_210 (.lf 0) (.tf jse2_211 (.lf 4607182418800017408) (.tf jse2_212 (.lf 0) (.tf jse2_213 (.lf 0) (.tf jse2_214 jse2_49 (.tf jse2_215 jse2_87 (.tf jse2_216 jse2_114 (.tf jse2_217 jse2_143 (.tf jse2_218 jse2_174 jse2_207)))))))))),
  (2124131217, 220, (.tf jse2_220 (.lf 0) (.tf jse2_221 (.lf 4607182418800017408) (.tf jse2_222 (.lf 0) (.tf jse2_223 (.lf 0) (.tf jse2_224 jse2_49 (.tf jse2_225 jse2_87 (.tf jse2_226 jse2_114 (.tf jse2_227 jse2_143 (.tf jse2_228 jse2_174 jse2_207)))))))))),
  (3180752136, 221, (.tf jse2_210 (.lf 0) (.tf jse2_211 (.lf 0) (.tf jse2_212 (.lf 4607182418800017408) (.tf jse2_213 (.lf 0) (.tf jse2_214 jse2_52 (.tf jse2_215 jse2_88 (.tf jse2_216 jse2_115 (.tf jse2_217 jse2_144 (.tf jse2_218 jse2_175 jse2_208)))))))))),
  (3370965146, 222, (.tf jse2_220 (.lf 0) (.tf jse2_221 (.lf 0) (.tf jse2_222 (.lf 4607182418800017408) (.tf jse2_223 (.lf 0) (.tf jse2_224 jse2_52 (.tf jse2_225 jse2_88 (.tf jse2_226 jse2_115 (.tf jse2_227 jse2_144 (.tf jse2_228 jse2_175 jse2_208)))))))))),
  (3570512699, 223, (.tf jse2_230 jse2_168 (.tf jse2_231 jse2_201 jse2_236))),
  (1278550157, 224, (.tf (.ic .eql jse2_237 (.li 0)) jse2_168 (.tf (.ic .eql jse2_237 (.li 1)) jse2_201 jse2_236))),
  (3281554906, 225, (.tf jse2_239 jse2_168 (.tf jse2_240 jse2_201 jse2_236))),
  (893182441, 226, (.tf jse2_230 jse2_173 (.tf jse2_231 jse2_206 jse2_241))),
  (604224648, 227, (.tf jse2_239 jse2_173 (.tf jse2_240 jse2_206 jse2_241))),
  (3188664505, 228, (.tf jse2_230 jse2_174 (.tf jse2_231 jse2_207 jse2_242))),
  (2899706712, 229, (.tf jse2_239 jse2_174 (.tf jse2_240 jse2_207 jse2_242))),
  (1189179278, 230, (.tf jse2_230 jse2_175 (.tf jse2_231 jse2_208 jse2_243))),
  (900221485, 231, (.tf jse2_239 jse2_175 (.tf jse2_240 jse2_208 jse2_243))),
  (2064544616, 232, (.tf jse2_245 jse2_18 (.tf jse2_246 jse2_4 (.tf jse2_247 jse2_6 (.tf jse2_248 jse2_7 (.tf jse2_249 jse2_40 (.tf jse2_250 jse2_80 (.tf jse2_251 jse2_108 (.tf jse2_252 jse2_137 (.tf jse2_253 jse2_168 (.tf jse2_254 jse2_201 jse2_236))))))))))),
  (1798673817, 233, (.tf jse2_256 jse2_18 (.tf jse2_257 jse2_4 (.tf jse2_258 jse2_6 (.tf jse2_259 jse2_7 (.tf jse2_260 jse2_40 (.tf jse2_261 jse2_80 (.tf jse2_262 jse2_108 (.tf jse2_263 jse2_137 (.tf jse2_264 jse2_168 (.tf jse2_265 jse2_201 jse2_236))))))))))),
  (927424544, 234, (.tf jse2_245 (.lf 4607182418800017408) (.tf jse2_246 (.lf 0) (.tf jse2_247 (.lf 0) (.tf jse2_248 (.lf 0) (.tf jse2_249 jse2_46 (.tf jse2_250 jse2_86 (.tf jse2_251 jse2_113 (.tf jse2_252 jse2_142 (.tf jse2_253 jse2_173 (.tf jse2_254 jse2_206 jse2_241))))))))))),
  (661553745, 235, (.tf jse2_256 (.lf 4607182418800017408) (.tf jse2_257 (.lf 0) (.tf jse2_258 (.lf 0) (.tf jse2_259 (.lf 0) (.tf jse2_260 jse2_46 (.tf jse2_261 jse2_86 (.tf jse2_262 jse2_113 (.tf jse2_263 jse2_142 (.tf jse2_264 jse2_173 (.tf jse2_265 jse2_206 jse2_241))))))))))),
  (1430862577, 236, (.tf jse2_245 (.lf 0) (.tf jse2_246 (.lf 4607182418800017408) (.tf jse2_247 (.lf 0) (.tf jse2_248 (.lf 0) (.tf jse2_249 jse2_49 (.tf jse2_250 jse2_87 (.tf jse2_251 jse2_114 (.tf jse2_252 jse2_143 (.tf jse2_253 jse2_174 (.tf jse2_254 jse2_207 jse2_242))))))))))),
  (1164991778, 237, (.tf jse2_256 (.lf 0) (.tf jse2_257 (.lf 4607182418800017408) (.tf jse2_258 (.lf 0) (.tf jse2_259 (.lf 0) (.tf jse2_260 jse2_49 (.tf jse2_261 jse2_87 (.tf jse2_262 jse2_114 (.tf jse2_263 jse2_143 (.tf jse2_264 jse2_174 (.tf jse2_265 jse2_207 jse2_242))))))))))),
  (1692606622, 238, (.tf jse2_245 (.lf 0) (.tf jse2_246 (.lf 0) (.tf jse2_247 (.lf 4607182418800017408) (.tf jse2_248 (.lf 0) (.tf jse2_249 jse2_52 (.tf jse2_250 jse2_88 (.tf jse2_251 jse2_115 (.tf jse2_252 jse2_144 (.tf jse2_253 jse2_175 (.tf jse2_254 jse2_208 jse2_243))))))))))),
  (1426735823, 239, (.tf jse2_256 (.lf 0) (.tf jse2_257 (.lf 0) (.tf jse2_258 (.lf 4607182418800017408) (.tf jse2_259 (.lf 0) (.tf jse2_260 jse2_52 (.tf jse2_261 jse2_88 (.tf jse2_262 jse2_115 (.tf jse2_263 jse2_144 (.tf jse2_264 jse2_175 (.tf jse2_265 jse2_208 jse2_243))))))))))),
  (1896262302, 240, (.tf jse2_267 jse2_201 (.tf jse2_268 jse2_236 jse2_273))),
  (3899267051, 241, (.tf (.ic .eql jse2_274 (.li 0)) jse2_201 (.tf (.ic .eql jse2_274 (.li 1)) jse2_236 jse2_273))),
  (1607304509, 242, (.tf jse2_276 jse2_201 (.tf jse2_277 jse2_236 jse2_273))),
  (366682581, 243, (.tf jse2_267 jse2_206 (.tf jse2_268 jse2_241 jse2_278))),
  (77724788, 244, (.tf jse2_276 jse2_206 (.tf jse2_277 jse2_241 jse2_278))),
  (2662164645, 245, (.tf jse2_267 jse2_207 (.tf jse2_268 jse2_242 jse2_279))),
  (2373206852, 246, (.tf jse2_276 jse2_207 (.tf jse2_277 jse2_242 jse2_279))),
  (662679418, 247, (.tf jse2_267 jse2_208 (.tf jse2_268 jse2_243 jse2_280))),
  (373721625, 248, (.tf jse2_276 jse2_208 (.tf jse2_277 jse2_243 jse2_280)))]
set_option maxRecDepth 1000000 in
set_option maxHeartbeats 100000000 in
theorem jsG2 : tabGood 100 jsN2 = true := by kernel_rfl
end Go.Proofs.Ytkaliagakdecaaa
