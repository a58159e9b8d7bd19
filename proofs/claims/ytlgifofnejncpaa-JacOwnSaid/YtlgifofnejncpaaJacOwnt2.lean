/-
  'JacOwn': what names stand for, where the first rest is 2.
-/
import Derived.Test.YtlgifofnejncpaaM4n
namespace Go.Proofs.Ytlgifofnejncpaa
open Go.RowKit Ex
def joe2_0 : E := (.ai 9 0 (.ci (.ib .quo .i64 (.at 1 0) (.li 4)) (.ci (.li 4) .n0)))
def joe2_1 : E := (.ic .eql joe2_0 (.li 0))
def joe2_2 : E := (.fb .quo (.i2f (.ib .sub .i64 (.ai 9 0 (.ci (.ti (.ic .lss (.li 0) (.vl 2)) (.at 2 0) (.li 0)) (.ci (.li 65) .n0))) (.li 32))) (.lf 4620693217682128896))
def joe2_3 : E := (.ic .eql joe2_0 (.li 1))
def joe2_4 : E := (.fb .quo (.i2f (.ib .sub .i64 (.ai 9 0 (.ci (.ti (.ic .lss (.li 1) (.vl 2)) (.at 2 1) (.li 1)) (.ci (.li 65) .n0))) (.li 32))) (.lf 4620693217682128896))
def joe2_5 : E := (.ic .eql joe2_0 (.li 2))
def joe2_6 : E := (.fb .quo (.i2f (.ib .sub .i64 (.ai 9 0 (.ci (.ti (.ic .lss (.li 2) (.vl 2)) (.at 2 2) (.li 2)) (.ci (.li 65) .n0))) (.li 32))) (.lf 4620693217682128896))
def joe2_7 : E := (.fb .quo (.i2f (.ib .sub .i64 (.ai 9 0 (.ci (.vi 0) (.ci (.li 17) .n0))) (.li 8))) (.lf 4616189618054758400))
def joe2_8 : E := (.tf joe2_1 joe2_2 (.tf joe2_3 joe2_4 (.tf joe2_5 joe2_6 joe2_7)))
def joe2_9 : E := (.ai 9 0 (.ci (.ib .quo .i64 (.at 1 0) (.li 40)) (.ci (.li 4) .n0)))
def joe2_10 : E := (.ic .eql joe2_9 (.li 0))
def joe2_11 : E := (.ic .eql joe2_9 (.li 1))
def joe2_12 : E := (.ic .eql joe2_9 (.li 2))
def joe2_13 : E := (.tf joe2_10 joe2_2 (.tf joe2_11 joe2_4 (.tf joe2_12 joe2_6 joe2_7)))
def joe2_14 : E := (.tf joe2_1 (.lf 0) (.tf joe2_3 (.lf 0) (.tf joe2_5 (.lf 4607182418800017408) (.lf 0))))
def joe2_15 : E := (.tf joe2_10 (.lf 0) (.tf joe2_11 (.lf 0) (.tf joe2_12 (.lf 4607182418800017408) (.lf 0))))
def joe2_16 : E := (.tf joe2_1 (.lf 4607182418800017408) (.lf 0))
def joe2_17 : E := (.tf joe2_10 (.lf 4607182418800017408) (.lf 0))
def joe2_18 : E := (.tf joe2_1 (.lf 0) (.tf joe2_3 (.lf 4607182418800017408) (.lf 0)))
def joe2_19 : E := (.tf joe2_10 (.lf 0) (.tf joe2_11 (.lf 4607182418800017408) (.lf 0)))
def joe2_20 : E := (.ai 9 0 (.ci (.ib .quo .i64 (.at 1 1) (.li 4)) (.ci (.li 5) .n0)))
def joe2_21 : E := (.ic .eql joe2_20 (.li 0))
def joe2_22 : E := (.ic .eql joe2_20 (.li 1))
def joe2_23 : E := (.ic .eql joe2_20 (.li 2))
def joe2_24 : E := (.ic .eql joe2_20 (.li 3))
def joe2_25 : E := (.ic .eql (.ai 9 0 (.ci (.at 1 0) (.ci (.li 11) .n0))) (.li 0))
def joe2_26 : E := (.fb .quo (.i2f (.ib .sub .i64 (.ai 9 0 (.ci (.ib .quo .i64 (.at 1 0) (.li 11)) (.ci (.li 33) .n0))) (.li 16))) (.lf 4620693217682128896))
def joe2_27 : E := (.ic .eql (.ai 9 0 (.ci (.at 1 0) (.ci (.li 7) .n0))) (.li 0))
def joe2_28 : E := (.ib .add .i64 (.li 2) (.ai 9 0 (.ci (.at 1 0) (.ci (.li 3) .n0))))
def joe2_29 : E := (.ic .eql joe2_28 (.li 2))
def joe2_30 : E := (.ic .eql joe2_28 (.li 3))
def joe2_31 : E := (.tf joe2_25 joe2_26 (.tf joe2_27 (.vf 111) (.tf joe2_29 (.vf 100) (.tf joe2_30 (.vf 102) (.vf 104)))))
def joe2_32 : E := (.ai 9 0 (.ci (.ib .quo .i64 (.at 1 1) (.li 40)) (.ci (.li 5) .n0)))
def joe2_33 : E := (.ic .eql joe2_32 (.li 0))
def joe2_34 : E := (.ic .eql joe2_32 (.li 1))
def joe2_35 : E := (.ic .eql joe2_32 (.li 2))
def joe2_36 : E := (.ic .eql joe2_32 (.li 3))
def joe2_37 : E := (.tf joe2_25 (.lf 0) (.tf joe2_27 (.vf 114) (.tf joe2_29 (.fb .add joe2_16 joe2_17) (.tf joe2_30 (.fb .sub joe2_16 joe2_17) (.fb .add (.vf 105) (.vf 106))))))
def joe2_38 : E := (.tf joe2_25 (.lf 0) (.tf joe2_27 (.vf 117) (.tf joe2_29 (.fb .add joe2_18 joe2_19) (.tf joe2_30 (.fb .sub joe2_18 joe2_19) (.fb .add (.vf 107) (.vf 108))))))
def joe2_39 : E := (.tf joe2_25 (.lf 0) (.tf joe2_27 (.vf 120) (.tf joe2_29 (.vf 101) (.tf joe2_30 (.vf 103) (.fb .add (.vf 109) (.vf 110))))))
def joe2_40 : E := (.fb .quo (.vf 121) (.vf 122))
def joe2_41 : E := (.ib .quo .i64 (.vi 0) (.li 3))
def joe2_42 : E := (.ai 9 0 (.ci (.ib .add .i64 joe2_41 (.li 0)) (.ci (.li 3) .n0)))
def joe2_43 : E := (.ib .sub .i64 (.ib .sub .i64 (.li 5) joe2_42) (.li 3))
def joe2_44 : E := (.ic .eql joe2_43 (.li 0))
def joe2_45 : E := (.ic .eql joe2_43 (.li 1))
def joe2_46 : E := (.ic .eql (.ai 9 0 (.ci (.at 1 1) (.ci (.li 11) .n0))) (.li 0))
def joe2_47 : E := (.fb .quo (.i2f (.ib .sub .i64 (.ai 9 0 (.ci (.ib .quo .i64 (.at 1 1) (.li 11)) (.ci (.li 33) .n0))) (.li 16))) (.lf 4620693217682128896))
def joe2_48 : E := (.ic .eql (.ai 9 0 (.ci (.at 1 1) (.ci (.li 7) .n0))) (.li 0))
def joe2_49 : E := (.ib .add .i64 (.li 2) (.ai 9 0 (.ci (.at 1 1) (.ci (.li 3) .n0))))
def joe2_50 : E := (.ic .eql joe2_49 (.li 2))
def joe2_51 : E := (.ic .eql joe2_49 (.li 3))
def joe2_52 : E := (.tf joe2_46 joe2_47 (.tf joe2_48 joe2_40 (.tf joe2_50 (.fb .add (.vf 121) (.vf 122)) (.tf joe2_51 (.fb .sub (.vf 121) (.vf 122)) (.fb .mul (.vf 121) (.vf 122))))))
def joe2_53 : E := (.ai 9 0 (.ci (.ib .add .i64 joe2_41 (.li 1)) (.ci (.li 3) .n0)))
def joe2_54 : E := (.ib .sub .i64 (.ib .sub .i64 (.li 5) joe2_53) (.li 3))
def joe2_55 : E := (.ic .eql joe2_54 (.li 0))
def joe2_56 : E := (.ic .eql joe2_54 (.li 1))
def joe2_57 : E := (.ai 9 0 (.ci (.ib .add .i64 joe2_41 (.li 2)) (.ci (.li 3) .n0)))
def joe2_58 : E := (.ib .sub .i64 (.ib .sub .i64 (.li 5) joe2_57) (.li 3))
def joe2_59 : E := (.ic .eql joe2_58 (.li 0))
def joe2_60 : E := (.ic .eql joe2_58 (.li 1))
def joe2_61 : E := (.tf joe2_46 (.lf 0) (.tf joe2_48 (.vf 129) (.tf joe2_50 (.fb .add (.vf 123) (.vf 124)) (.tf joe2_51 (.fb .sub (.vf 123) (.vf 124)) (.fb .add (.fb .mul (.vf 123) (.vf 122)) (.fb .mul (.vf 121) (.vf 124)))))))
def joe2_62 : E := (.tf joe2_46 (.lf 0) (.tf joe2_48 (.vf 130) (.tf joe2_50 (.fb .add (.vf 125) (.vf 126)) (.tf joe2_51 (.fb .sub (.vf 125) (.vf 126)) (.fb .add (.fb .mul (.vf 125) (.vf 122)) (.fb .mul (.vf 121) (.vf 126)))))))
def joe2_63 : E := (.tf joe2_46 (.lf 0) (.tf joe2_48 (.vf 131) (.tf joe2_50 (.fb .add (.vf 127) (.vf 128)) (.tf joe2_51 (.fb .sub (.vf 127) (.vf 128)) (.fb .add (.fb .mul (.vf 127) (.vf 122)) (.fb .mul (.vf 121) (.vf 128)))))))
def joe2_64 : E := (.ai 9 0 (.ci (.ib .quo .i64 (.at 1 2) (.li 4)) (.ci (.li 6) .n0)))
def joe2_65 : E := (.ic .eql joe2_64 (.li 0))
def joe2_66 : E := (.ic .eql joe2_64 (.li 1))
def joe2_67 : E := (.ic .eql joe2_64 (.li 2))
def joe2_68 : E := (.ic .eql joe2_64 (.li 3))
def joe2_69 : E := (.ic .eql joe2_64 (.li 4))
def joe2_70 : E := (.ai 9 0 (.ci (.ib .quo .i64 (.at 1 2) (.li 40)) (.ci (.li 6) .n0)))
def joe2_71 : E := (.ic .eql joe2_70 (.li 0))
def joe2_72 : E := (.ic .eql joe2_70 (.li 1))
def joe2_73 : E := (.ic .eql joe2_70 (.li 2))
def joe2_74 : E := (.ic .eql joe2_70 (.li 3))
def joe2_75 : E := (.ic .eql joe2_70 (.li 4))
def joe2_76 : E := (.fb .quo (.vf 144) (.vf 145))
def joe2_77 : E := (.ib .sub .i64 (.ib .sub .i64 (.li 6) joe2_42) (.li 4))
def joe2_78 : E := (.ic .eql joe2_77 (.li 0))
def joe2_79 : E := (.ic .eql joe2_77 (.li 1))
def joe2_80 : E := (.ic .eql (.ai 9 0 (.ci (.at 1 2) (.ci (.li 11) .n0))) (.li 0))
def joe2_81 : E := (.fb .quo (.i2f (.ib .sub .i64 (.ai 9 0 (.ci (.ib .quo .i64 (.at 1 2) (.li 11)) (.ci (.li 33) .n0))) (.li 16))) (.lf 4620693217682128896))
def joe2_82 : E := (.ic .eql (.ai 9 0 (.ci (.at 1 2) (.ci (.li 7) .n0))) (.li 0))
def joe2_83 : E := (.ib .add .i64 (.li 2) (.ai 9 0 (.ci (.at 1 2) (.ci (.li 3) .n0))))
def joe2_84 : E := (.ic .eql joe2_83 (.li 2))
def joe2_85 : E := (.ic .eql joe2_83 (.li 3))
def joe2_86 : E := (.tf joe2_80 joe2_81 (.tf joe2_82 joe2_76 (.tf joe2_84 (.fb .add (.vf 144) (.vf 145)) (.tf joe2_85 (.fb .sub (.vf 144) (.vf 145)) (.fb .mul (.vf 144) (.vf 145))))))
def joe2_87 : E := (.ib .sub .i64 (.ib .sub .i64 (.li 6) joe2_53) (.li 4))
def joe2_88 : E := (.ic .eql joe2_87 (.li 0))
def joe2_89 : E := (.ic .eql joe2_87 (.li 1))
def joe2_90 : E := (.ib .sub .i64 (.ib .sub .i64 (.li 6) joe2_57) (.li 4))
def joe2_91 : E := (.ic .eql joe2_90 (.li 0))
def joe2_92 : E := (.ic .eql joe2_90 (.li 1))
def joe2_93 : E := (.tf joe2_80 (.lf 0) (.tf joe2_82 (.vf 152) (.tf joe2_84 (.fb .add (.vf 146) (.vf 147)) (.tf joe2_85 (.fb .sub (.vf 146) (.vf 147)) (.fb .add (.fb .mul (.vf 146) (.vf 145)) (.fb .mul (.vf 144) (.vf 147)))))))
def joe2_94 : E := (.tf joe2_80 (.lf 0) (.tf joe2_82 (.vf 153) (.tf joe2_84 (.fb .add (.vf 148) (.vf 149)) (.tf joe2_85 (.fb .sub (.vf 148) (.vf 149)) (.fb .add (.fb .mul (.vf 148) (.vf 145)) (.fb .mul (.vf 144) (.vf 149)))))))
def joe2_95 : E := (.tf joe2_80 (.lf 0) (.tf joe2_82 (.vf 154) (.tf joe2_84 (.fb .add (.vf 150) (.vf 151)) (.tf joe2_85 (.fb .sub (.vf 150) (.vf 151)) (.fb .add (.fb .mul (.vf 150) (.vf 145)) (.fb .mul (.vf 144) (.vf 151)))))))
def joe2_96 : E := (.ai 9 0 (.ci (.ib .quo .i64 (.at 1 3) (.li 4)) (.ci (.li 7) .n0)))
def joe2_97 : E := (.ic .eql joe2_96 (.li 0))
def joe2_98 : E := (.ic .eql joe2_96 (.li 1))
def joe2_99 : E := (.ic .eql joe2_96 (.li 2))
def joe2_100 : E := (.ic .eql joe2_96 (.li 3))
def joe2_101 : E := (.ic .eql joe2_96 (.li 4))
def joe2_102 : E := (.ic .eql joe2_96 (.li 5))
def joe2_103 : E := (.ai 9 0 (.ci (.ib .quo .i64 (.at 1 3) (.li 40)) (.ci (.li 7) .n0)))
def joe2_104 : E := (.ic .eql joe2_103 (.li 0))
def joe2_105 : E := (.ic .eql joe2_103 (.li 1))
def joe2_106 : E := (.ic .eql joe2_103 (.li 2))
def joe2_107 : E := (.ic .eql joe2_103 (.li 3))
def joe2_108 : E := (.ic .eql joe2_103 (.li 4))
def joe2_109 : E := (.ic .eql joe2_103 (.li 5))
def joe2_110 : E := (.fb .quo (.vf 167) (.vf 168))
def joe2_111 : E := (.ib .sub .i64 (.ib .sub .i64 (.li 7) joe2_42) (.li 5))
def joe2_112 : E := (.ic .eql joe2_111 (.li 0))
def joe2_113 : E := (.ic .eql joe2_111 (.li 1))
def joe2_114 : E := (.ic .eql (.ai 9 0 (.ci (.at 1 3) (.ci (.li 11) .n0))) (.li 0))
def joe2_115 : E := (.fb .quo (.i2f (.ib .sub .i64 (.ai 9 0 (.ci (.ib .quo .i64 (.at 1 3) (.li 11)) (.ci (.li 33) .n0))) (.li 16))) (.lf 4620693217682128896))
def joe2_116 : E := (.ic .eql (.ai 9 0 (.ci (.at 1 3) (.ci (.li 7) .n0))) (.li 0))
def joe2_117 : E := (.ib .add .i64 (.li 2) (.ai 9 0 (.ci (.at 1 3) (.ci (.li 3) .n0))))
def joe2_118 : E := (.ic .eql joe2_117 (.li 2))
def joe2_119 : E := (.ic .eql joe2_117 (.li 3))
def joe2_120 : E := (.tf joe2_114 joe2_115 (.tf joe2_116 joe2_110 (.tf joe2_118 (.fb .add (.vf 167) (.vf 168)) (.tf joe2_119 (.fb .sub (.vf 167) (.vf 168)) (.fb .mul (.vf 167) (.vf 168))))))
def joe2_121 : E := (.ib .sub .i64 (.ib .sub .i64 (.li 7) joe2_53) (.li 5))
def joe2_122 : E := (.ic .eql joe2_121 (.li 0))
def joe2_123 : E := (.ic .eql joe2_121 (.li 1))
def joe2_124 : E := (.ib .sub .i64 (.ib .sub .i64 (.li 7) joe2_57) (.li 5))
def joe2_125 : E := (.ic .eql joe2_124 (.li 0))
def joe2_126 : E := (.ic .eql joe2_124 (.li 1))
def joe2_127 : E := (.tf joe2_114 (.lf 0) (.tf joe2_116 (.vf 175) (.tf joe2_118 (.fb .add (.vf 169) (.vf 170)) (.tf joe2_119 (.fb .sub (.vf 169) (.vf 170)) (.fb .add (.fb .mul (.vf 169) (.vf 168)) (.fb .mul (.vf 167) (.vf 170)))))))
def joe2_128 : E := (.tf joe2_114 (.lf 0) (.tf joe2_116 (.vf 176) (.tf joe2_118 (.fb .add (.vf 171) (.vf 172)) (.tf joe2_119 (.fb .sub (.vf 171) (.vf 172)) (.fb .add (.fb .mul (.vf 171) (.vf 168)) (.fb .mul (.vf 167) (.vf 172)))))))
def joe2_129 : E := (.tf joe2_114 (.lf 0) (.tf joe2_116 (.vf 177) (.tf joe2_118 (.fb .add (.vf 173) (.vf 174)) (.tf joe2_119 (.fb .sub (.vf 173) (.vf 174)) (.fb .add (.fb .mul (.vf 173) (.vf 168)) (.fb .mul (.vf 167) (.vf 174)))))))
def joe2_130 : E := (.ai 9 0 (.ci (.ib .quo .i64 (.at 1 4) (.li 4)) (.ci (.li 8) .n0)))
def joe2_131 : E := (.ic .eql joe2_130 (.li 0))
def joe2_132 : E := (.ic .eql joe2_130 (.li 1))
def joe2_133 : E := (.ic .eql joe2_130 (.li 2))
def joe2_134 : E := (.ic .eql joe2_130 (.li 3))
def joe2_135 : E := (.ic .eql joe2_130 (.li 4))
def joe2_136 : E := (.ic .eql joe2_130 (.li 5))
def joe2_137 : E := (.ic .eql joe2_130 (.li 6))
def joe2_138 : E := (.ai 9 0 (.ci (.ib .quo .i64 (.at 1 4) (.li 40)) (.ci (.li 8) .n0)))
def joe2_139 : E := (.ic .eql joe2_138 (.li 0))
def joe2_140 : E := (.ic .eql joe2_138 (.li 1))
def joe2_141 : E := (.ic .eql joe2_138 (.li 2))
def joe2_142 : E := (.ic .eql joe2_138 (.li 3))
def joe2_143 : E := (.ic .eql joe2_138 (.li 4))
def joe2_144 : E := (.ic .eql joe2_138 (.li 5))
def joe2_145 : E := (.ic .eql joe2_138 (.li 6))
def joe2_146 : E := (.fb .quo (.vf 190) (.vf 191))
def joe2_147 : E := (.ib .sub .i64 (.ib .sub .i64 (.li 8) joe2_42) (.li 6))
def joe2_148 : E := (.ic .eql joe2_147 (.li 0))
def joe2_149 : E := (.ic .eql joe2_147 (.li 1))
def joe2_150 : E := (.ic .eql (.ai 9 0 (.ci (.at 1 4) (.ci (.li 11) .n0))) (.li 0))
def joe2_151 : E := (.fb .quo (.i2f (.ib .sub .i64 (.ai 9 0 (.ci (.ib .quo .i64 (.at 1 4) (.li 11)) (.ci (.li 33) .n0))) (.li 16))) (.lf 4620693217682128896))
def joe2_152 : E := (.ic .eql (.ai 9 0 (.ci (.at 1 4) (.ci (.li 7) .n0))) (.li 0))
def joe2_153 : E := (.ib .add .i64 (.li 2) (.ai 9 0 (.ci (.at 1 4) (.ci (.li 3) .n0))))
def joe2_154 : E := (.ic .eql joe2_153 (.li 2))
def joe2_155 : E := (.ic .eql joe2_153 (.li 3))
def joe2_156 : E := (.tf joe2_150 joe2_151 (.tf joe2_152 joe2_146 (.tf joe2_154 (.fb .add (.vf 190) (.vf 191)) (.tf joe2_155 (.fb .sub (.vf 190) (.vf 191)) (.fb .mul (.vf 190) (.vf 191))))))
def joe2_157 : E := (.ib .sub .i64 (.ib .sub .i64 (.li 8) joe2_53) (.li 6))
def joe2_158 : E := (.ic .eql joe2_157 (.li 0))
def joe2_159 : E := (.ic .eql joe2_157 (.li 1))
def joe2_160 : E := (.ib .sub .i64 (.ib .sub .i64 (.li 8) joe2_57) (.li 6))
def joe2_161 : E := (.ic .eql joe2_160 (.li 0))
def joe2_162 : E := (.ic .eql joe2_160 (.li 1))
def joe2_163 : E := (.tf joe2_150 (.lf 0) (.tf joe2_152 (.vf 198) (.tf joe2_154 (.fb .add (.vf 192) (.vf 193)) (.tf joe2_155 (.fb .sub (.vf 192) (.vf 193)) (.fb .add (.fb .mul (.vf 192) (.vf 191)) (.fb .mul (.vf 190) (.vf 193)))))))
def joe2_164 : E := (.tf joe2_150 (.lf 0) (.tf joe2_152 (.vf 199) (.tf joe2_154 (.fb .add (.vf 194) (.vf 195)) (.tf joe2_155 (.fb .sub (.vf 194) (.vf 195)) (.fb .add (.fb .mul (.vf 194) (.vf 191)) (.fb .mul (.vf 190) (.vf 195)))))))
def joe2_165 : E := (.tf joe2_150 (.lf 0) (.tf joe2_152 (.vf 200) (.tf joe2_154 (.fb .add (.vf 196) (.vf 197)) (.tf joe2_155 (.fb .sub (.vf 196) (.vf 197)) (.fb .add (.fb .mul (.vf 196) (.vf 191)) (.fb .mul (.vf 190) (.vf 197)))))))
def joe2_166 : E := (.ai 9 0 (.ci (.ib .quo .i64 (.at 1 5) (.li 4)) (.ci (.li 9) .n0)))
def joe2_167 : E := (.ic .eql joe2_166 (.li 0))
def joe2_168 : E := (.ic .eql joe2_166 (.li 1))
def joe2_169 : E := (.ic .eql joe2_166 (.li 2))
def joe2_170 : E := (.ic .eql joe2_166 (.li 3))
def joe2_171 : E := (.ic .eql joe2_166 (.li 4))
def joe2_172 : E := (.ic .eql joe2_166 (.li 5))
def joe2_173 : E := (.ic .eql joe2_166 (.li 6))
def joe2_174 : E := (.ic .eql joe2_166 (.li 7))
def joe2_175 : E := (.ai 9 0 (.ci (.ib .quo .i64 (.at 1 5) (.li 40)) (.ci (.li 9) .n0)))
def joe2_176 : E := (.ic .eql joe2_175 (.li 0))
def joe2_177 : E := (.ic .eql joe2_175 (.li 1))
def joe2_178 : E := (.ic .eql joe2_175 (.li 2))
def joe2_179 : E := (.ic .eql joe2_175 (.li 3))
def joe2_180 : E := (.ic .eql joe2_175 (.li 4))
def joe2_181 : E := (.ic .eql joe2_175 (.li 5))
def joe2_182 : E := (.ic .eql joe2_175 (.li 6))
def joe2_183 : E := (.ic .eql joe2_175 (.li 7))
def joe2_184 : E := (.fb .quo (.vf 213) (.vf 214))
def joe2_185 : E := (.ib .sub .i64 (.ib .sub .i64 (.li 9) joe2_42) (.li 7))
def joe2_186 : E := (.ic .eql joe2_185 (.li 0))
def joe2_187 : E := (.ic .eql joe2_185 (.li 1))
def joe2_188 : E := (.ic .eql (.ai 9 0 (.ci (.at 1 5) (.ci (.li 11) .n0))) (.li 0))
def joe2_189 : E := (.fb .quo (.i2f (.ib .sub .i64 (.ai 9 0 (.ci (.ib .quo .i64 (.at 1 5) (.li 11)) (.ci (.li 33) .n0))) (.li 16))) (.lf 4620693217682128896))
def joe2_190 : E := (.ic .eql (.ai 9 0 (.ci (.at 1 5) (.ci (.li 7) .n0))) (.li 0))
def joe2_191 : E := (.ib .add .i64 (.li 2) (.ai 9 0 (.ci (.at 1 5) (.ci (.li 3) .n0))))
def joe2_192 : E := (.ic .eql joe2_191 (.li 2))
def joe2_193 : E := (.ic .eql joe2_191 (.li 3))
def joe2_194 : E := (.tf joe2_188 joe2_189 (.tf joe2_190 joe2_184 (.tf joe2_192 (.fb .add (.vf 213) (.vf 214)) (.tf joe2_193 (.fb .sub (.vf 213) (.vf 214)) (.fb .mul (.vf 213) (.vf 214))))))
def joe2_195 : E := (.ib .sub .i64 (.ib .sub .i64 (.li 9) joe2_53) (.li 7))
def joe2_196 : E := (.ic .eql joe2_195 (.li 0))
def joe2_197 : E := (.ic .eql joe2_195 (.li 1))
def joe2_198 : E := (.ib .sub .i64 (.ib .sub .i64 (.li 9) joe2_57) (.li 7))
def joe2_199 : E := (.ic .eql joe2_198 (.li 0))
def joe2_200 : E := (.ic .eql joe2_198 (.li 1))
def joe2_201 : E := (.tf joe2_188 (.lf 0) (.tf joe2_190 (.vf 221) (.tf joe2_192 (.fb .add (.vf 215) (.vf 216)) (.tf joe2_193 (.fb .sub (.vf 215) (.vf 216)) (.fb .add (.fb .mul (.vf 215) (.vf 214)) (.fb .mul (.vf 213) (.vf 216)))))))
def joe2_202 : E := (.tf joe2_188 (.lf 0) (.tf joe2_190 (.vf 222) (.tf joe2_192 (.fb .add (.vf 217) (.vf 218)) (.tf joe2_193 (.fb .sub (.vf 217) (.vf 218)) (.fb .add (.fb .mul (.vf 217) (.vf 214)) (.fb .mul (.vf 213) (.vf 218)))))))
def joe2_203 : E := (.tf joe2_188 (.lf 0) (.tf joe2_190 (.vf 223) (.tf joe2_192 (.fb .add (.vf 219) (.vf 220)) (.tf joe2_193 (.fb .sub (.vf 219) (.vf 220)) (.fb .add (.fb .mul (.vf 219) (.vf 214)) (.fb .mul (.vf 213) (.vf 220)))))))
def joe2_204 : E := (.ai 9 0 (.ci (.ib .quo .i64 (.at 1 6) (.li 4)) (.ci (.li 10) .n0)))
def joe2_205 : E := (.ic .eql joe2_204 (.li 0))
def joe2_206 : E := (.ic .eql joe2_204 (.li 1))
def joe2_207 : E := (.ic .eql joe2_204 (.li 2))
def joe2_208 : E := (.ic .eql joe2_204 (.li 3))
def joe2_209 : E := (.ic .eql joe2_204 (.li 4))
def joe2_210 : E := (.ic .eql joe2_204 (.li 5))
def joe2_211 : E := (.ic .eql joe2_204 (.li 6))
def joe2_212 : E := (.ic .eql joe2_204 (.li 7))
def joe2_213 : E := (.ic .eql joe2_204 (.li 8))
def joe2_214 : E := (.ai 9 0 (.ci (.ib .quo .i64 (.at 1 6) (.li 40)) (.ci (.li 10) .n0)))
def joe2_215 : E := (.ic .eql joe2_214 (.li 0))
def joe2_216 : E := (.ic .eql joe2_214 (.li 1))
def joe2_217 : E := (.ic .eql joe2_214 (.li 2))
def joe2_218 : E := (.ic .eql joe2_214 (.li 3))
def joe2_219 : E := (.ic .eql joe2_214 (.li 4))
def joe2_220 : E := (.ic .eql joe2_214 (.li 5))
def joe2_221 : E := (.ic .eql joe2_214 (.li 6))
def joe2_222 : E := (.ic .eql joe2_214 (.li 7))
def joe2_223 : E := (.ic .eql joe2_214 (.li 8))
def joe2_224 : E := (.fb .quo (.vf 236) (.vf 237))
def joe2_225 : E := (.ib .sub .i64 (.ib .sub .i64 (.li 10) joe2_42) (.li 8))
def joe2_226 : E := (.ic .eql joe2_225 (.li 0))
def joe2_227 : E := (.ic .eql joe2_225 (.li 1))
def joe2_228 : E := (.ic .eql (.ai 9 0 (.ci (.at 1 6) (.ci (.li 11) .n0))) (.li 0))
def joe2_229 : E := (.fb .quo (.i2f (.ib .sub .i64 (.ai 9 0 (.ci (.ib .quo .i64 (.at 1 6) (.li 11)) (.ci (.li 33) .n0))) (.li 16))) (.lf 4620693217682128896))
def joe2_230 : E := (.ic .eql (.ai 9 0 (.ci (.at 1 6) (.ci (.li 7) .n0))) (.li 0))
def joe2_231 : E := (.ib .add .i64 (.li 2) (.ai 9 0 (.ci (.at 1 6) (.ci (.li 3) .n0))))
def joe2_232 : E := (.ic .eql joe2_231 (.li 2))
def joe2_233 : E := (.ic .eql joe2_231 (.li 3))
def joe2_234 : E := (.tf joe2_228 joe2_229 (.tf joe2_230 joe2_224 (.tf joe2_232 (.fb .add (.vf 236) (.vf 237)) (.tf joe2_233 (.fb .sub (.vf 236) (.vf 237)) (.fb .mul (.vf 236) (.vf 237))))))
def joe2_235 : E := (.ib .sub .i64 (.ib .sub .i64 (.li 10) joe2_53) (.li 8))
def joe2_236 : E := (.ic .eql joe2_235 (.li 0))
def joe2_237 : E := (.ic .eql joe2_235 (.li 1))
def joe2_238 : E := (.ib .sub .i64 (.ib .sub .i64 (.li 10) joe2_57) (.li 8))
def joe2_239 : E := (.ic .eql joe2_238 (.li 0))
def joe2_240 : E := (.ic .eql joe2_238 (.li 1))
def joe2_241 : E := (.tf joe2_228 (.lf 0) (.tf joe2_230 (.vf 244) (.tf joe2_232 (.fb .add (.vf 238) (.vf 239)) (.tf joe2_233 (.fb .sub (.vf 238) (.vf 239)) (.fb .add (.fb .mul (.vf 238) (.vf 237)) (.fb .mul (.vf 236) (.vf 239)))))))
def joe2_242 : E := (.tf joe2_228 (.lf 0) (.tf joe2_230 (.vf 245) (.tf joe2_232 (.fb .add (.vf 240) (.vf 241)) (.tf joe2_233 (.fb .sub (.vf 240) (.vf 241)) (.fb .add (.fb .mul (.vf 240) (.vf 237)) (.fb .mul (.vf 236) (.vf 241)))))))
def joe2_243 : E := (.tf joe2_228 (.lf 0) (.tf joe2_230 (.vf 246) (.tf joe2_232 (.fb .add (.vf 242) (.vf 243)) (.tf joe2_233 (.fb .sub (.vf 242) (.vf 243)) (.fb .add (.fb .mul (.vf 242) (.vf 237)) (.fb .mul (.vf 236) (.vf 243)))))))
def joe2_244 : E := (.ai 9 0 (.ci (.ib .quo .i64 (.at 1 7) (.li 4)) (.ci (.li 11) .n0)))
def joe2_245 : E := (.ic .eql joe2_244 (.li 0))
def joe2_246 : E := (.ic .eql joe2_244 (.li 1))
def joe2_247 : E := (.ic .eql joe2_244 (.li 2))
def joe2_248 : E := (.ic .eql joe2_244 (.li 3))
def joe2_249 : E := (.ic .eql joe2_244 (.li 4))
def joe2_250 : E := (.ic .eql joe2_244 (.li 5))
def joe2_251 : E := (.ic .eql joe2_244 (.li 6))
def joe2_252 : E := (.ic .eql joe2_244 (.li 7))
def joe2_253 : E := (.ic .eql joe2_244 (.li 8))
def joe2_254 : E := (.ic .eql joe2_244 (.li 9))
def joe2_255 : E := (.ai 9 0 (.ci (.ib .quo .i64 (.at 1 7) (.li 40)) (.ci (.li 11) .n0)))
def joe2_256 : E := (.ic .eql joe2_255 (.li 0))
def joe2_257 : E := (.ic .eql joe2_255 (.li 1))
def joe2_258 : E := (.ic .eql joe2_255 (.li 2))
def joe2_259 : E := (.ic .eql joe2_255 (.li 3))
def joe2_260 : E := (.ic .eql joe2_255 (.li 4))
def joe2_261 : E := (.ic .eql joe2_255 (.li 5))
def joe2_262 : E := (.ic .eql joe2_255 (.li 6))
def joe2_263 : E := (.ic .eql joe2_255 (.li 7))
def joe2_264 : E := (.ic .eql joe2_255 (.li 8))
def joe2_265 : E := (.ic .eql joe2_255 (.li 9))
def joe2_266 : E := (.fb .quo (.vf 259) (.vf 260))
def joe2_267 : E := (.ib .sub .i64 (.ib .sub .i64 (.li 11) joe2_42) (.li 9))
def joe2_268 : E := (.ic .eql joe2_267 (.li 0))
def joe2_269 : E := (.ic .eql joe2_267 (.li 1))
def joe2_270 : E := (.ic .eql (.ai 9 0 (.ci (.at 1 7) (.ci (.li 11) .n0))) (.li 0))
def joe2_271 : E := (.fb .quo (.i2f (.ib .sub .i64 (.ai 9 0 (.ci (.ib .quo .i64 (.at 1 7) (.li 11)) (.ci (.li 33) .n0))) (.li 16))) (.lf 4620693217682128896))
def joe2_272 : E := (.ic .eql (.ai 9 0 (.ci (.at 1 7) (.ci (.li 7) .n0))) (.li 0))
def joe2_273 : E := (.ib .add .i64 (.li 2) (.ai 9 0 (.ci (.at 1 7) (.ci (.li 3) .n0))))
def joe2_274 : E := (.ic .eql joe2_273 (.li 2))
def joe2_275 : E := (.ic .eql joe2_273 (.li 3))
def joe2_276 : E := (.tf joe2_270 joe2_271 (.tf joe2_272 joe2_266 (.tf joe2_274 (.fb .add (.vf 259) (.vf 260)) (.tf joe2_275 (.fb .sub (.vf 259) (.vf 260)) (.fb .mul (.vf 259) (.vf 260))))))
def joe2_277 : E := (.ib .sub .i64 (.ib .sub .i64 (.li 11) joe2_53) (.li 9))
def joe2_278 : E := (.ic .eql joe2_277 (.li 0))
def joe2_279 : E := (.ic .eql joe2_277 (.li 1))
def joe2_280 : E := (.ib .sub .i64 (.ib .sub .i64 (.li 11) joe2_57) (.li 9))
def joe2_281 : E := (.ic .eql joe2_280 (.li 0))
def joe2_282 : E := (.ic .eql joe2_280 (.li 1))
def joe2_283 : E := (.tf joe2_270 (.lf 0) (.tf joe2_272 (.vf 267) (.tf joe2_274 (.fb .add (.vf 261) (.vf 262)) (.tf joe2_275 (.fb .sub (.vf 261) (.vf 262)) (.fb .add (.fb .mul (.vf 261) (.vf 260)) (.fb .mul (.vf 259) (.vf 262)))))))
def joe2_284 : E := (.tf joe2_270 (.lf 0) (.tf joe2_272 (.vf 268) (.tf joe2_274 (.fb .add (.vf 263) (.vf 264)) (.tf joe2_275 (.fb .sub (.vf 263) (.vf 264)) (.fb .add (.fb .mul (.vf 263) (.vf 260)) (.fb .mul (.vf 259) (.vf 264)))))))
def joe2_285 : E := (.tf joe2_270 (.lf 0) (.tf joe2_272 (.vf 269) (.tf joe2_274 (.fb .add (.vf 265) (.vf 266)) (.tf joe2_275 (.fb .sub (.vf 265) (.vf 266)) (.fb .add (.fb .mul (.vf 265) (.vf 260)) (.fb .mul (.vf 259) (.vf 266)))))))
def joN2 : Nms := [(89080201, 100, (.fb .add joe2_8 joe2_13)),
  (4049083810, 101, (.fb .add joe2_14 joe2_15)),
  (3662668698, 102, (.fb .sub joe2_8 joe2_13)),
  (3327705016, 103, (.fb .sub joe2_14 joe2_15)),
  (2941289904, 104, (.fb .mul joe2_8 joe2_13)),
  (3409133663, 105, (.fb .mul joe2_16 joe2_13)),
  (3967708072, 106, (.fb .mul joe2_8 joe2_17)),
  (2254960396, 107, (.fb .mul joe2_18 joe2_13)),
  (1033103705, 108, (.fb .mul joe2_8 joe2_19)),
  (301939794, 109, (.fb .mul joe2_14 joe2_13)),
  (950709041, 110, (.fb .mul joe2_8 joe2_15)),
  (2219911110, 111, (.fb .quo joe2_8 joe2_13)),
  (3632508683, 112, (.fb .mul (.vf 111) joe2_17)),
  (2158968349, 113, (.fb .sub joe2_16 (.vf 112))),
  (1886711727, 114, (.fb .quo (.vf 113) joe2_13)),
  (697904316, 115, (.fb .mul (.vf 111) joe2_19)),
  (1004795085, 116, (.fb .sub joe2_18 (.vf 115))),
  (1889711736, 117, (.fb .quo (.vf 116) joe2_13)),
  (615509652, 118, (.fb .mul (.vf 111) joe2_15)),
  (3346741777, 119, (.fb .sub joe2_14 (.vf 118))),
  (1892711745, 120, (.fb .quo (.vf 119) joe2_13)),
  (1521132052, 121, (.tf joe2_21 joe2_2 (.tf joe2_22 joe2_4 (.tf joe2_23 joe2_6 (.tf joe2_24 joe2_7 joe2_31))))),
  (3991764107, 122, (.tf joe2_33 joe2_2 (.tf joe2_34 joe2_4 (.tf joe2_35 joe2_6 (.tf joe2_36 joe2_7 joe2_31))))),
  (2980876273, 123, (.tf joe2_21 (.lf 4607182418800017408) (.tf joe2_22 (.lf 0) (.tf joe2_23 (.lf 0) (.tf joe2_24 (.lf 0) joe2_37))))),
  (1156541037, 124, (.tf joe2_33 (.lf 4607182418800017408) (.tf joe2_34 (.lf 0) (.tf joe2_35 (.lf 0) (.tf joe2_36 (.lf 0) joe2_37))))),
  (2252568867, 125, (.tf joe2_21 (.lf 0) (.tf joe2_22 (.lf 4607182418800017408) (.tf joe2_23 (.lf 0) (.tf joe2_24 (.lf 0) joe2_38))))),
  (428233631, 126, (.tf joe2_33 (.lf 0) (.tf joe2_34 (.lf 4607182418800017408) (.tf joe2_35 (.lf 0) (.tf joe2_36 (.lf 0) joe2_38))))),
  (1368772461, 127, (.tf joe2_21 (.lf 0) (.tf joe2_22 (.lf 0) (.tf joe2_23 (.lf 4607182418800017408) (.tf joe2_24 (.lf 0) joe2_39))))),
  (3839404516, 128, (.tf joe2_33 (.lf 0) (.tf joe2_34 (.lf 0) (.tf joe2_35 (.lf 4607182418800017408) (.tf joe2_36 (.lf 0) joe2_39))))),
  (2620378217, 129, (.fb .quo (.fb .sub (.vf 123) (.fb .mul joe2_40 (.vf 124))) (.vf 122))),
  (1179620635, 130, (.fb .quo (.fb .sub (.vf 125) (.fb .mul joe2_40 (.vf 126))) (.vf 122))),
  (4033830344, 131, (.fb .quo (.fb .sub (.vf 127) (.fb .mul joe2_40 (.vf 128))) (.vf 122))),
  (88865889, 132, (.tf joe2_44 joe2_7 (.tf joe2_45 joe2_31 joe2_52))),
  (2091870638, 133, (.tf joe2_55 joe2_7 (.tf joe2_56 joe2_31 joe2_52))),
  (4094875387, 134, (.tf joe2_59 joe2_7 (.tf joe2_60 joe2_31 joe2_52))),
  (2484129467, 135, (.tf joe2_44 (.lf 0) (.tf joe2_45 joe2_37 joe2_61))),
  (3353338536, 136, (.tf joe2_44 (.lf 0) (.tf joe2_45 joe2_38 joe2_62))),
  (1161949387, 137, (.tf joe2_44 (.lf 0) (.tf joe2_45 joe2_39 joe2_63))),
  (192166925, 138, (.tf joe2_55 (.lf 0) (.tf joe2_56 joe2_37 joe2_61))),
  (1061375994, 139, (.tf joe2_55 (.lf 0) (.tf joe2_56 joe2_38 joe2_62))),
  (3164954136, 140, (.tf joe2_55 (.lf 0) (.tf joe2_56 joe2_39 joe2_63))),
  (2195171674, 141, (.tf joe2_59 (.lf 0) (.tf joe2_60 joe2_37 joe2_61))),
  (3064380743, 142, (.tf joe2_59 (.lf 0) (.tf joe2_60 joe2_38 joe2_62))),
  (872991594, 143, (.tf joe2_59 (.lf 0) (.tf joe2_60 joe2_39 joe2_63))),
  (1433593298, 144, (.tf joe2_65 joe2_2 (.tf joe2_66 joe2_4 (.tf joe2_67 joe2_6 (.tf joe2_68 joe2_7 (.tf joe2_69 joe2_31 joe2_52)))))),
  (3448141544, 145, (.tf joe2_71 joe2_2 (.tf joe2_72 joe2_4 (.tf joe2_73 joe2_6 (.tf joe2_74 joe2_7 (.tf joe2_75 joe2_31 joe2_52)))))),
  (3224260821, 146, (.tf joe2_65 (.lf 4607182418800017408) (.tf joe2_66 (.lf 0) (.tf joe2_67 (.lf 0) (.tf joe2_68 (.lf 0) (.tf joe2_69 joe2_37 joe2_61)))))),
  (943841776, 147, (.tf joe2_71 (.lf 4607182418800017408) (.tf joe2_72 (.lf 0) (.tf joe2_73 (.lf 0) (.tf joe2_74 (.lf 0) (.tf joe2_75 joe2_37 joe2_61)))))),
  (4093469890, 148, (.tf joe2_65 (.lf 0) (.tf joe2_66 (.lf 4607182418800017408) (.tf joe2_67 (.lf 0) (.tf joe2_68 (.lf 0) (.tf joe2_69 joe2_38 joe2_62)))))),
  (1813050845, 149, (.tf joe2_71 (.lf 0) (.tf joe2_72 (.lf 4607182418800017408) (.tf joe2_73 (.lf 0) (.tf joe2_74 (.lf 0) (.tf joe2_75 joe2_38 joe2_62)))))),
  (1902080741, 150, (.tf joe2_65 (.lf 0) (.tf joe2_66 (.lf 0) (.tf joe2_67 (.lf 4607182418800017408) (.tf joe2_68 (.lf 0) (.tf joe2_69 joe2_39 joe2_63)))))),
  (3916628987, 151, (.tf joe2_71 (.lf 0) (.tf joe2_72 (.lf 0) (.tf joe2_73 (.lf 4607182418800017408) (.tf joe2_74 (.lf 0) (.tf joe2_75 joe2_39 joe2_63)))))),
  (1075398697, 152, (.fb .quo (.fb .sub (.vf 146) (.fb .mul joe2_76 (.vf 147))) (.vf 145))),
  (3929608406, 153, (.fb .quo (.fb .sub (.vf 148) (.fb .mul joe2_76 (.vf 149))) (.vf 145))),
  (2488850824, 154, (.fb .quo (.fb .sub (.vf 150) (.fb .mul joe2_76 (.vf 151))) (.vf 145))),
  (1790776225, 155, (.tf joe2_78 joe2_31 (.tf joe2_79 joe2_52 joe2_86))),
  (3793780974, 156, (.tf joe2_88 joe2_31 (.tf joe2_89 joe2_52 joe2_86))),
  (1501818432, 157, (.tf joe2_91 joe2_31 (.tf joe2_92 joe2_52 joe2_86))),
  (163367800, 158, (.tf joe2_78 joe2_37 (.tf joe2_79 joe2_61 joe2_93))),
  (3621075482, 159, (.tf joe2_78 joe2_38 (.tf joe2_79 joe2_62 joe2_94))),
  (4018184946, 160, (.tf joe2_78 joe2_39 (.tf joe2_79 joe2_63 joe2_95))),
  (2166372549, 161, (.tf joe2_88 joe2_37 (.tf joe2_89 joe2_61 joe2_93))),
  (1329112940, 162, (.tf joe2_88 joe2_38 (.tf joe2_89 joe2_62 joe2_94))),
  (1726222404, 163, (.tf joe2_88 joe2_39 (.tf joe2_89 joe2_63 joe2_95))),
  (4169377298, 164, (.tf joe2_91 joe2_37 (.tf joe2_92 joe2_61 joe2_93))),
  (3332117689, 165, (.tf joe2_91 joe2_38 (.tf joe2_92 joe2_62 joe2_94))),
  (3729227153, 166, (.tf joe2_91 joe2_39 (.tf joe2_92 joe2_63 joe2_95))),
  (3315323261, 167, (.tf joe2_97 joe2_2 (.tf joe2_98 joe2_4 (.tf joe2_99 joe2_6 (.tf joe2_100 joe2_7 (.tf joe2_101 joe2_31 (.tf joe2_102 joe2_52 joe2_86))))))),
  (578820407, 168, (.tf joe2_104 joe2_2 (.tf joe2_105 joe2_4 (.tf joe2_106 joe2_6 (.tf joe2_107 joe2_7 (.tf joe2_108 joe2_31 (.tf joe2_109 joe2_52 joe2_86))))))),
  (2357137348, 169, (.tf joe2_97 (.lf 4607182418800017408) (.tf joe2_98 (.lf 0) (.tf joe2_99 (.lf 0) (.tf joe2_100 (.lf 0) (.tf joe2_101 joe2_37 (.tf joe2_102 joe2_61 joe2_93))))))),
  (3915601785, 170, (.tf joe2_104 (.lf 4607182418800017408) (.tf joe2_105 (.lf 0) (.tf joe2_106 (.lf 0) (.tf joe2_107 (.lf 0) (.tf joe2_108 joe2_37 (.tf joe2_109 joe2_61 joe2_93))))))),
  (1519877739, 171, (.tf joe2_97 (.lf 0) (.tf joe2_98 (.lf 4607182418800017408) (.tf joe2_99 (.lf 0) (.tf joe2_100 (.lf 0) (.tf joe2_101 joe2_38 (.tf joe2_102 joe2_62 joe2_94))))))),
  (3078342176, 172, (.tf joe2_104 (.lf 0) (.tf joe2_105 (.lf 4607182418800017408) (.tf joe2_106 (.lf 0) (.tf joe2_107 (.lf 0) (.tf joe2_108 joe2_38 (.tf joe2_109 joe2_62 joe2_94))))))),
  (1916987203, 173, (.tf joe2_97 (.lf 0) (.tf joe2_98 (.lf 0) (.tf joe2_99 (.lf 4607182418800017408) (.tf joe2_100 (.lf 0) (.tf joe2_101 joe2_39 (.tf joe2_102 joe2_63 joe2_95))))))),
  (3475451640, 174, (.tf joe2_104 (.lf 0) (.tf joe2_105 (.lf 0) (.tf joe2_106 (.lf 4607182418800017408) (.tf joe2_107 (.lf 0) (.tf joe2_108 joe2_39 (.tf joe2_109 joe2_63 joe2_95))))))),
  (3825386468, 175, (.fb .quo (.fb .sub (.vf 169) (.fb .mul joe2_110 (.vf 170))) (.vf 168))),
  (2384628886, 176, (.fb .quo (.fb .sub (.vf 171) (.fb .mul joe2_110 (.vf 172))) (.vf 168))),
  (943871304, 177, (.fb .quo (.fb .sub (.vf 173) (.fb .mul joe2_110 (.vf 174))) (.vf 168))),
  (2048276363, 178, (.tf joe2_112 joe2_52 (.tf joe2_113 joe2_86 joe2_120))),
  (4051281112, 179, (.tf joe2_122 joe2_52 (.tf joe2_123 joe2_86 joe2_120))),
  (1759318570, 180, (.tf joe2_125 joe2_52 (.tf joe2_126 joe2_86 joe2_120))),
  (184916397, 181, (.tf joe2_112 joe2_61 (.tf joe2_113 joe2_93 joe2_127))),
  (1038640876, 182, (.tf joe2_112 joe2_62 (.tf joe2_113 joe2_94 joe2_128))),
  (1892365355, 183, (.tf joe2_112 joe2_63 (.tf joe2_113 joe2_95 joe2_129))),
  (2187921146, 184, (.tf joe2_122 joe2_61 (.tf joe2_123 joe2_93 joe2_127))),
  (3041645625, 185, (.tf joe2_122 joe2_62 (.tf joe2_123 joe2_94 joe2_128))),
  (3895370104, 186, (.tf joe2_122 joe2_63 (.tf joe2_123 joe2_95 joe2_129))),
  (4190925895, 187, (.tf joe2_125 joe2_61 (.tf joe2_126 joe2_93 joe2_127))),
  (749683083, 188, (.tf joe2_125 joe2_62 (.tf joe2_126 joe2_94 joe2_128))),
  (1603407562, 189, (.tf joe2_125 joe2_63 (.tf joe2_126 joe2_95 joe2_129))),
  (2732734836, 190, (.tf joe2_131 joe2_2 (.tf joe2_132 joe2_4 (.tf joe2_133 joe2_6 (.tf joe2_134 joe2_7 (.tf joe2_135 joe2_31 (.tf joe2_136 joe2_52 (.tf joe2_137 joe2_86 joe2_120)))))))),
  (3835115464, 191, (.tf joe2_139 joe2_2 (.tf joe2_140 joe2_4 (.tf joe2_141 joe2_6 (.tf joe2_142 joe2_7 (.tf joe2_143 joe2_31 (.tf joe2_144 joe2_52 (.tf joe2_145 joe2_86 joe2_120)))))))),
  (2529515631, 192, (.tf joe2_131 (.lf 4607182418800017408) (.tf joe2_132 (.lf 0) (.tf joe2_133 (.lf 0) (.tf joe2_134 (.lf 0) (.tf joe2_135 joe2_37 (.tf joe2_136 joe2_61 (.tf joe2_137 joe2_93 joe2_127)))))))),
  (3631896259, 193, (.tf joe2_139 (.lf 4607182418800017408) (.tf joe2_140 (.lf 0) (.tf joe2_141 (.lf 0) (.tf joe2_142 (.lf 0) (.tf joe2_143 joe2_37 (.tf joe2_144 joe2_61 (.tf joe2_145 joe2_93 joe2_127)))))))),
  (4280754635, 194, (.tf joe2_131 (.lf 0) (.tf joe2_132 (.lf 4607182418800017408) (.tf joe2_133 (.lf 0) (.tf joe2_134 (.lf 0) (.tf joe2_135 joe2_38 (.tf joe2_136 joe2_62 (.tf joe2_137 joe2_94 joe2_128)))))))),
  (1088167972, 195, (.tf joe2_139 (.lf 0) (.tf joe2_140 (.lf 4607182418800017408) (.tf joe2_141 (.lf 0) (.tf joe2_142 (.lf 0) (.tf joe2_143 joe2_38 (.tf joe2_144 joe2_62 (.tf joe2_145 joe2_94 joe2_128)))))))),
  (2971395421, 196, (.tf joe2_131 (.lf 0) (.tf joe2_132 (.lf 0) (.tf joe2_133 (.lf 4607182418800017408) (.tf joe2_134 (.lf 0) (.tf joe2_135 joe2_39 (.tf joe2_136 joe2_63 (.tf joe2_137 joe2_95 joe2_129)))))))),
  (4073776049, 197, (.tf joe2_139 (.lf 0) (.tf joe2_140 (.lf 0) (.tf joe2_141 (.lf 4607182418800017408) (.tf joe2_142 (.lf 0) (.tf joe2_143 joe2_39 (.tf joe2_144 joe2_63 (.tf joe2_145 joe2_95 joe2_129)))))))),
  (2280406948, 198, (.fb .quo (.fb .sub (.vf 192) (.fb .mul joe2_146 (.vf 193))) (.vf 191))),
  (839649366, 199, (.fb .quo (.fb .sub (.vf 194) (.fb .mul joe2_146 (.vf 195))) (.vf 191))),
  (3693859075, 200, (.fb .quo (.fb .sub (.vf 196) (.fb .mul joe2_146 (.vf 197))) (.vf 191))),
  (3534027155, 201, (.tf joe2_148 joe2_86 (.tf joe2_149 joe2_120 joe2_156))),
  (1242064613, 202, (.tf joe2_158 joe2_86 (.tf joe2_159 joe2_120 joe2_156))),
  (3245069362, 203, (.tf joe2_161 joe2_86 (.tf joe2_162 joe2_120 joe2_156))),
  (2831847245, 204, (.tf joe2_148 joe2_93 (.tf joe2_149 joe2_127 joe2_163))),
  (3685571724, 205, (.tf joe2_148 joe2_94 (.tf joe2_149 joe2_128 joe2_164))),
  (244328912, 206, (.tf joe2_148 joe2_95 (.tf joe2_149 joe2_129 joe2_165))),
  (539884703, 207, (.tf joe2_158 joe2_93 (.tf joe2_159 joe2_127 joe2_163))),
  (1393609182, 208, (.tf joe2_158 joe2_94 (.tf joe2_159 joe2_128 joe2_164))),
  (2247333661, 209, (.tf joe2_158 joe2_95 (.tf joe2_159 joe2_129 joe2_165))),
  (2542889452, 210, (.tf joe2_161 joe2_93 (.tf joe2_162 joe2_127 joe2_163))),
  (3396613931, 211, (.tf joe2_161 joe2_94 (.tf joe2_162 joe2_128 joe2_164))),
  (4250338410, 212, (.tf joe2_161 joe2_95 (.tf joe2_162 joe2_129 joe2_165))),
  (3980795314, 213, (.tf joe2_167 joe2_2 (.tf joe2_168 joe2_4 (.tf joe2_169 joe2_6 (.tf joe2_170 joe2_7 (.tf joe2_171 joe2_31 (.tf joe2_172 joe2_52 (.tf joe2_173 joe2_86 (.tf joe2_174 joe2_120 joe2_156))))))))),
  (332124842, 214, (.tf joe2_176 joe2_2 (.tf joe2_177 joe2_4 (.tf joe2_178 joe2_6 (.tf joe2_179 joe2_7 (.tf joe2_180 joe2_31 (.tf joe2_181 joe2_52 (.tf joe2_182 joe2_86 (.tf joe2_183 joe2_120 joe2_156))))))))),
  (3741395670, 215, (.tf joe2_167 (.lf 4607182418800017408) (.tf joe2_168 (.lf 0) (.tf joe2_169 (.lf 0) (.tf joe2_170 (.lf 0) (.tf joe2_171 joe2_37 (.tf joe2_172 joe2_61 (.tf joe2_173 joe2_93 (.tf joe2_174 joe2_127 joe2_163))))))))),
  (92725198, 216, (.tf joe2_176 (.lf 4607182418800017408) (.tf joe2_177 (.lf 0) (.tf joe2_178 (.lf 0) (.tf joe2_179 (.lf 0) (.tf joe2_180 joe2_37 (.tf joe2_181 joe2_61 (.tf joe2_182 joe2_93 (.tf joe2_183 joe2_127 joe2_163))))))))),
  (3786165996, 217, (.tf joe2_167 (.lf 0) (.tf joe2_168 (.lf 4607182418800017408) (.tf joe2_169 (.lf 0) (.tf joe2_170 (.lf 0) (.tf joe2_171 joe2_38 (.tf joe2_172 joe2_62 (.tf joe2_173 joe2_94 (.tf joe2_174 joe2_128 joe2_164))))))))),
  (137495524, 218, (.tf joe2_176 (.lf 0) (.tf joe2_177 (.lf 4607182418800017408) (.tf joe2_178 (.lf 0) (.tf joe2_179 (.lf 0) (.tf joe2_180 joe2_38 (.tf joe2_181 joe2_62 (.tf joe2_182 joe2_94 (.tf joe2_183 joe2_128 joe2_164))))))))),
  (770338104, 219, (.tf joe2_167 (.lf 0) (.tf joe2_168 (.lf 0) (.tf joe2_169 (.lf 4607182418800017408) (.tf joe2_170 (.lf 0) (.tf joe2_171 joe2_39 (.tf joe2_172 joe2_63 (.tf joe2_173 joe2_95 (.tf joe2_174 joe2_129 joe2_165))))))))),
  (1416634923, 220, (.tf joe2_176 (.lf 0) (.tf joe2_177 (.lf 0) (.tf joe2_178 (.lf 4607182418800017408) (.tf joe2_179 (.lf 0) (.tf joe2_180 joe2_39 (.tf joe2_181 joe2_63 (.tf joe2_182 joe2_95 (.tf joe2_183 joe2_129 joe2_165))))))))),
  (735427428, 221, (.fb .quo (.fb .sub (.vf 215) (.fb .mul joe2_184 (.vf 216))) (.vf 214))),
  (3589637137, 222, (.fb .quo (.fb .sub (.vf 217) (.fb .mul joe2_184 (.vf 218))) (.vf 214))),
  (2148879555, 223, (.fb .quo (.fb .sub (.vf 219) (.fb .mul joe2_184 (.vf 220))) (.vf 214))),
  (724810656, 224, (.tf joe2_186 joe2_120 (.tf joe2_187 joe2_156 joe2_194))),
  (2727815405, 225, (.tf joe2_196 joe2_120 (.tf joe2_197 joe2_156 joe2_194))),
  (435852863, 226, (.tf joe2_199 joe2_120 (.tf joe2_200 joe2_156 joe2_194))),
  (1183810802, 227, (.tf joe2_186 joe2_127 (.tf joe2_187 joe2_163 joe2_201))),
  (2037535281, 228, (.tf joe2_186 joe2_128 (.tf joe2_187 joe2_164 joe2_202))),
  (2891259760, 229, (.tf joe2_186 joe2_129 (.tf joe2_187 joe2_165 joe2_203))),
  (3186815551, 230, (.tf joe2_196 joe2_127 (.tf joe2_197 joe2_163 joe2_201))),
  (4040540030, 231, (.tf joe2_196 joe2_128 (.tf joe2_197 joe2_164 joe2_202))),
  (599297218, 232, (.tf joe2_196 joe2_129 (.tf joe2_197 joe2_165 joe2_203))),
  (894853009, 233, (.tf joe2_199 joe2_127 (.tf joe2_200 joe2_163 joe2_201))),
  (1748577488, 234, (.tf joe2_199 joe2_128 (.tf joe2_200 joe2_164 joe2_202))),
  (2602301967, 235, (.tf joe2_199 joe2_129 (.tf joe2_200 joe2_165 joe2_203))),
  (2764537404, 236, (.tf joe2_205 joe2_2 (.tf joe2_206 joe2_4 (.tf joe2_207 joe2_6 (.tf joe2_208 joe2_7 (.tf joe2_209 joe2_31 (.tf joe2_210 joe2_52 (.tf joe2_211 joe2_86 (.tf joe2_212 joe2_120 (.tf joe2_213 joe2_156 joe2_194)))))))))),
  (2954750414, 237, (.tf joe2_215 joe2_2 (.tf joe2_216 joe2_4 (.tf joe2_217 joe2_6 (.tf joe2_218 joe2_7 (.tf joe2_219 joe2_31 (.tf joe2_220 joe2_52 (.tf joe2_221 joe2_86 (.tf joe2_222 joe2_120 (.tf joe2_223 joe2_156 joe2_194)))))))))),
  (1697810174, 238, (.tf joe2_205 (.lf 4607182418800017408) (.tf joe2_206 (.lf 0) (.tf joe2_207 (.lf 0) (.tf joe2_208 (.lf 0) (.tf joe2_209 joe2_37 (.tf joe2_210 joe2_61 (.tf joe2_211 joe2_93 (.tf joe2_212 joe2_127 (.tf joe2_213 joe2_163 joe2_201)))))))))),
  (1888023184, 239, (.tf joe2_215 (.lf 4607182418800017408) (.tf joe2_216 (.lf 0) (.tf joe2_217 (.lf 0) (.tf joe2_218 (.lf 0) (.tf joe2_219 joe2_37 (.tf joe2_220 joe2_61 (.tf joe2_221 joe2_93 (.tf joe2_222 joe2_127 (.tf joe2_223 joe2_163 joe2_201)))))))))),
  (36111822, 240, (.tf joe2_205 (.lf 0) (.tf joe2_206 (.lf 4607182418800017408) (.tf joe2_207 (.lf 0) (.tf joe2_208 (.lf 0) (.tf joe2_209 joe2_38 (.tf joe2_210 joe2_62 (.tf joe2_211 joe2_94 (.tf joe2_212 joe2_128 (.tf joe2_213 joe2_164 joe2_202)))))))))),
  (226324832, 241, (.tf joe2_215 (.lf 0) (.tf joe2_216 (.lf 4607182418800017408) (.tf joe2_217 (.lf 0) (.tf joe2_218 (.lf 0) (.tf joe2_219 joe2_38 (.tf joe2_220 joe2_62 (.tf joe2_221 joe2_94 (.tf joe2_222 joe2_128 (.tf joe2_223 joe2_164 joe2_202)))))))))),
  (3903749834, 242, (.tf joe2_205 (.lf 0) (.tf joe2_206 (.lf 0) (.tf joe2_207 (.lf 4607182418800017408) (.tf joe2_208 (.lf 0) (.tf joe2_209 joe2_39 (.tf joe2_210 joe2_63 (.tf joe2_211 joe2_95 (.tf joe2_212 joe2_129 (.tf joe2_213 joe2_165 joe2_203)))))))))),
  (4093962844, 243, (.tf joe2_215 (.lf 0) (.tf joe2_216 (.lf 0) (.tf joe2_217 (.lf 4607182418800017408) (.tf joe2_218 (.lf 0) (.tf joe2_219 joe2_39 (.tf joe2_220 joe2_63 (.tf joe2_221 joe2_95 (.tf joe2_222 joe2_129 (.tf joe2_223 joe2_165 joe2_203)))))))))),
  (3485415199, 244, (.fb .quo (.fb .sub (.vf 238) (.fb .mul joe2_224 (.vf 239))) (.vf 237))),
  (2044657617, 245, (.fb .quo (.fb .sub (.vf 240) (.fb .mul joe2_224 (.vf 241))) (.vf 237))),
  (603900035, 246, (.fb .quo (.fb .sub (.vf 242) (.fb .mul joe2_224 (.vf 243))) (.vf 237))),
  (2210561448, 247, (.tf joe2_226 joe2_156 (.tf joe2_227 joe2_194 joe2_234))),
  (4213566197, 248, (.tf joe2_236 joe2_156 (.tf joe2_237 joe2_194 joe2_234))),
  (1921603655, 249, (.tf joe2_239 joe2_156 (.tf joe2_240 joe2_194 joe2_234))),
  (3830741650, 250, (.tf joe2_226 joe2_163 (.tf joe2_227 joe2_201 joe2_241))),
  (389498838, 251, (.tf joe2_226 joe2_164 (.tf joe2_227 joe2_202 joe2_242))),
  (1243223317, 252, (.tf joe2_226 joe2_165 (.tf joe2_227 joe2_203 joe2_243))),
  (1538779108, 253, (.tf joe2_236 joe2_163 (.tf joe2_237 joe2_201 joe2_241))),
  (2392503587, 254, (.tf joe2_236 joe2_164 (.tf joe2_237 joe2_202 joe2_242))),
  (3246228066, 255, (.tf joe2_236 joe2_165 (.tf joe2_237 joe2_203 joe2_243))),
  (3541783857, 256, (.tf joe2_239 joe2_163 (.tf joe2_240 joe2_201 joe2_241))),
  (100541045, 257, (.tf joe2_239 joe2_164 (.tf joe2_240 joe2_202 joe2_242))),
  (954265524, 258, (.tf joe2_239 joe2_165 (.tf joe2_240 joe2_203 joe2_243))),
  (3378928397, 259, (.tf joe2_245 joe2_2 (.tf joe2_246 joe2_4 (.tf joe2_247 joe2_6 (.tf joe2_248 joe2_7 (.tf joe2_249 joe2_31 (.tf joe2_250 joe2_52 (.tf joe2_251 joe2_86 (.tf joe2_252 joe2_120 (.tf joe2_253 joe2_156 (.tf joe2_254 joe2_194 joe2_234))))))))))),
  (3113057598, 260, (.tf joe2_256 joe2_2 (.tf joe2_257 joe2_4 (.tf joe2_258 joe2_6 (.tf joe2_259 joe2_7 (.tf joe2_260 joe2_31 (.tf joe2_261 joe2_52 (.tf joe2_262 joe2_86 (.tf joe2_263 joe2_120 (.tf joe2_264 joe2_156 (.tf joe2_265 joe2_194 joe2_234))))))))))),
  (693726434, 261, (.tf joe2_245 (.lf 4607182418800017408) (.tf joe2_246 (.lf 0) (.tf joe2_247 (.lf 0) (.tf joe2_248 (.lf 0) (.tf joe2_249 joe2_37 (.tf joe2_250 joe2_61 (.tf joe2_251 joe2_93 (.tf joe2_252 joe2_127 (.tf joe2_253 joe2_163 (.tf joe2_254 joe2_201 joe2_241))))))))))),
  (427855635, 262, (.tf joe2_256 (.lf 4607182418800017408) (.tf joe2_257 (.lf 0) (.tf joe2_258 (.lf 0) (.tf joe2_259 (.lf 0) (.tf joe2_260 joe2_37 (.tf joe2_261 joe2_61 (.tf joe2_262 joe2_93 (.tf joe2_263 joe2_127 (.tf joe2_264 joe2_163 (.tf joe2_265 joe2_201 joe2_241))))))))))),
  (1620526695, 263, (.tf joe2_245 (.lf 0) (.tf joe2_246 (.lf 4607182418800017408) (.tf joe2_247 (.lf 0) (.tf joe2_248 (.lf 0) (.tf joe2_249 joe2_38 (.tf joe2_250 joe2_62 (.tf joe2_251 joe2_94 (.tf joe2_252 joe2_128 (.tf joe2_253 joe2_164 (.tf joe2_254 joe2_202 joe2_242))))))))))),
  (1354655896, 264, (.tf joe2_256 (.lf 0) (.tf joe2_257 (.lf 4607182418800017408) (.tf joe2_258 (.lf 0) (.tf joe2_259 (.lf 0) (.tf joe2_260 joe2_38 (.tf joe2_261 joe2_62 (.tf joe2_262 joe2_94 (.tf joe2_263 joe2_128 (.tf joe2_264 joe2_164 (.tf joe2_265 joe2_202 joe2_242))))))))))),
  (3781696029, 265, (.tf joe2_245 (.lf 0) (.tf joe2_246 (.lf 0) (.tf joe2_247 (.lf 4607182418800017408) (.tf joe2_248 (.lf 0) (.tf joe2_249 joe2_39 (.tf joe2_250 joe2_63 (.tf joe2_251 joe2_95 (.tf joe2_252 joe2_129 (.tf joe2_253 joe2_165 (.tf joe2_254 joe2_203 joe2_243))))))))))),
  (3515825230, 266, (.tf joe2_256 (.lf 0) (.tf joe2_257 (.lf 0) (.tf joe2_258 (.lf 4607182418800017408) (.tf joe2_259 (.lf 0) (.tf joe2_260 joe2_39 (.tf joe2_261 joe2_63 (.tf joe2_262 joe2_95 (.tf joe2_263 joe2_129 (.tf joe2_264 joe2_165 (.tf joe2_265 joe2_203 joe2_243))))))))))),
  (1940435679, 267, (.fb .quo (.fb .sub (.vf 261) (.fb .mul joe2_266 (.vf 262))) (.vf 260))),
  (499678097, 268, (.fb .quo (.fb .sub (.vf 263) (.fb .mul joe2_266 (.vf 264))) (.vf 260))),
  (3353887806, 269, (.fb .quo (.fb .sub (.vf 265) (.fb .mul joe2_266 (.vf 266))) (.vf 260))),
  (3696312240, 270, (.tf joe2_268 joe2_194 (.tf joe2_269 joe2_234 joe2_276))),
  (1404349698, 271, (.tf joe2_278 joe2_194 (.tf joe2_279 joe2_234 joe2_276))),
  (3407354447, 272, (.tf joe2_281 joe2_194 (.tf joe2_282 joe2_234 joe2_276))),
  (1283738509, 273, (.tf joe2_270 joe2_271 (.tf joe2_228 joe2_229 (.tf joe2_188 joe2_189 (.tf joe2_150 joe2_151 (.tf joe2_114 joe2_115 (.tf joe2_80 joe2_81 (.tf joe2_46 joe2_47 (.tf joe2_25 joe2_26 joe2_7))))))))),
  (2182705207, 274, (.tf joe2_268 joe2_201 (.tf joe2_269 joe2_241 joe2_283))),
  (3036429686, 275, (.tf joe2_268 joe2_202 (.tf joe2_269 joe2_242 joe2_284))),
  (3890154165, 276, (.tf joe2_268 joe2_203 (.tf joe2_269 joe2_243 joe2_285))),
  (4185709956, 277, (.tf joe2_278 joe2_201 (.tf joe2_279 joe2_241 joe2_283))),
  (744467144, 278, (.tf joe2_278 joe2_202 (.tf joe2_279 joe2_242 joe2_284))),
  (1598191623, 279, (.tf joe2_278 joe2_203 (.tf joe2_279 joe2_243 joe2_285))),
  (1893747414, 280, (.tf joe2_281 joe2_201 (.tf joe2_282 joe2_241 joe2_283))),
  (2747471893, 281, (.tf joe2_281 joe2_202 (.tf joe2_282 joe2_242 joe2_284))),
  (3601196372, 282, (.tf joe2_281 joe2_203 (.tf joe2_282 joe2_243 joe2_285)))]
set_option maxRecDepth 1000000 in
set_option maxHeartbeats 100000000 in
theorem joG2 : tabGood 100 joN2 = true := by kernel_rfl
end Go.Proofs.Ytlgifofnejncpaa
