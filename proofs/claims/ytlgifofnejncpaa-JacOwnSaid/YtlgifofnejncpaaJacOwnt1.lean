/-
  'JacOwn': what names stand for, where the first rest is 1.
-/
import Derived.Test.YtlgifofnejncpaaM4n
namespace Go.Proofs.Ytlgifofnejncpaa
open Go.RowKit Ex
def joe1_0 : E := (.ai 9 0 (.ci (.ib .quo .i64 (.at 1 0) (.li 4)) (.ci (.li 3) .n0)))
def joe1_1 : E := (.ic .eql joe1_0 (.li 0))
def joe1_2 : E := (.fb .quo (.i2f (.ib .sub .i64 (.ai 9 0 (.ci (.ti (.ic .lss (.li 0) (.vl 2)) (.at 2 0) (.li 0)) (.ci (.li 65) .n0))) (.li 32))) (.lf 4620693217682128896))
def joe1_3 : E := (.ic .eql joe1_0 (.li 1))
def joe1_4 : E := (.fb .quo (.i2f (.ib .sub .i64 (.ai 9 0 (.ci (.ti (.ic .lss (.li 1) (.vl 2)) (.at 2 1) (.li 1)) (.ci (.li 65) .n0))) (.li 32))) (.lf 4620693217682128896))
def joe1_5 : E := (.fb .quo (.i2f (.ib .sub .i64 (.ai 9 0 (.ci (.vi 0) (.ci (.li 17) .n0))) (.li 8))) (.lf 4616189618054758400))
def joe1_6 : E := (.tf joe1_1 joe1_2 (.tf joe1_3 joe1_4 joe1_5))
def joe1_7 : E := (.ai 9 0 (.ci (.ib .quo .i64 (.at 1 0) (.li 40)) (.ci (.li 3) .n0)))
def joe1_8 : E := (.ic .eql joe1_7 (.li 0))
def joe1_9 : E := (.ic .eql joe1_7 (.li 1))
def joe1_10 : E := (.tf joe1_8 joe1_2 (.tf joe1_9 joe1_4 joe1_5))
def joe1_11 : E := (.tf joe1_1 (.lf 4607182418800017408) (.lf 0))
def joe1_12 : E := (.tf joe1_8 (.lf 4607182418800017408) (.lf 0))
def joe1_13 : E := (.tf joe1_1 (.lf 0) (.tf joe1_3 (.lf 4607182418800017408) (.lf 0)))
def joe1_14 : E := (.tf joe1_8 (.lf 0) (.tf joe1_9 (.lf 4607182418800017408) (.lf 0)))
def joe1_15 : E := (.ai 9 0 (.ci (.ib .quo .i64 (.at 1 1) (.li 4)) (.ci (.li 4) .n0)))
def joe1_16 : E := (.ic .eql joe1_15 (.li 0))
def joe1_17 : E := (.ic .eql joe1_15 (.li 1))
def joe1_18 : E := (.ic .eql joe1_15 (.li 2))
def joe1_19 : E := (.ic .eql (.ai 9 0 (.ci (.at 1 0) (.ci (.li 11) .n0))) (.li 0))
def joe1_20 : E := (.fb .quo (.i2f (.ib .sub .i64 (.ai 9 0 (.ci (.ib .quo .i64 (.at 1 0) (.li 11)) (.ci (.li 33) .n0))) (.li 16))) (.lf 4620693217682128896))
def joe1_21 : E := (.ic .eql (.ai 9 0 (.ci (.at 1 0) (.ci (.li 7) .n0))) (.li 0))
def joe1_22 : E := (.ib .add .i64 (.li 2) (.ai 9 0 (.ci (.at 1 0) (.ci (.li 3) .n0))))
def joe1_23 : E := (.ic .eql joe1_22 (.li 2))
def joe1_24 : E := (.ic .eql joe1_22 (.li 3))
def joe1_25 : E := (.tf joe1_19 joe1_20 (.tf joe1_21 (.vf 107) (.tf joe1_23 (.vf 100) (.tf joe1_24 (.vf 101) (.vf 102)))))
def joe1_26 : E := (.tf joe1_16 joe1_2 (.tf joe1_17 joe1_4 (.tf joe1_18 joe1_5 joe1_25)))
def joe1_27 : E := (.ai 9 0 (.ci (.ib .quo .i64 (.at 1 1) (.li 40)) (.ci (.li 4) .n0)))
def joe1_28 : E := (.ic .eql joe1_27 (.li 0))
def joe1_29 : E := (.ic .eql joe1_27 (.li 1))
def joe1_30 : E := (.ic .eql joe1_27 (.li 2))
def joe1_31 : E := (.tf joe1_28 joe1_2 (.tf joe1_29 joe1_4 (.tf joe1_30 joe1_5 joe1_25)))
def joe1_32 : E := (.tf joe1_19 (.lf 0) (.tf joe1_21 (.vf 110) (.tf joe1_23 (.fb .add joe1_11 joe1_12) (.tf joe1_24 (.fb .sub joe1_11 joe1_12) (.fb .add (.vf 103) (.vf 104))))))
def joe1_33 : E := (.tf joe1_16 (.lf 4607182418800017408) (.tf joe1_17 (.lf 0) (.tf joe1_18 (.lf 0) joe1_32)))
def joe1_34 : E := (.tf joe1_28 (.lf 4607182418800017408) (.tf joe1_29 (.lf 0) (.tf joe1_30 (.lf 0) joe1_32)))
def joe1_35 : E := (.tf joe1_19 (.lf 0) (.tf joe1_21 (.vf 113) (.tf joe1_23 (.fb .add joe1_13 joe1_14) (.tf joe1_24 (.fb .sub joe1_13 joe1_14) (.fb .add (.vf 105) (.vf 106))))))
def joe1_36 : E := (.tf joe1_16 (.lf 0) (.tf joe1_17 (.lf 4607182418800017408) (.tf joe1_18 (.lf 0) joe1_35)))
def joe1_37 : E := (.tf joe1_28 (.lf 0) (.tf joe1_29 (.lf 4607182418800017408) (.tf joe1_30 (.lf 0) joe1_35)))
def joe1_38 : E := (.ib .quo .i64 (.vi 0) (.li 3))
def joe1_39 : E := (.ai 9 0 (.ci (.ib .add .i64 joe1_38 (.li 0)) (.ci (.li 3) .n0)))
def joe1_40 : E := (.ib .sub .i64 (.ib .sub .i64 (.li 4) joe1_39) (.li 2))
def joe1_41 : E := (.ic .eql joe1_40 (.li 0))
def joe1_42 : E := (.ic .eql joe1_40 (.li 1))
def joe1_43 : E := (.ic .eql (.ai 9 0 (.ci (.at 1 1) (.ci (.li 11) .n0))) (.li 0))
def joe1_44 : E := (.fb .quo (.i2f (.ib .sub .i64 (.ai 9 0 (.ci (.ib .quo .i64 (.at 1 1) (.li 11)) (.ci (.li 33) .n0))) (.li 16))) (.lf 4620693217682128896))
def joe1_45 : E := (.ic .eql (.ai 9 0 (.ci (.at 1 1) (.ci (.li 7) .n0))) (.li 0))
def joe1_46 : E := (.ib .add .i64 (.li 2) (.ai 9 0 (.ci (.at 1 1) (.ci (.li 3) .n0))))
def joe1_47 : E := (.ic .eql joe1_46 (.li 2))
def joe1_48 : E := (.ic .eql joe1_46 (.li 3))
def joe1_49 : E := (.tf joe1_43 joe1_44 (.tf joe1_45 (.vf 125) (.tf joe1_47 (.vf 114) (.tf joe1_48 (.vf 117) (.vf 120)))))
def joe1_50 : E := (.ai 9 0 (.ci (.ib .add .i64 joe1_38 (.li 1)) (.ci (.li 3) .n0)))
def joe1_51 : E := (.ib .sub .i64 (.ib .sub .i64 (.li 4) joe1_50) (.li 2))
def joe1_52 : E := (.ic .eql joe1_51 (.li 0))
def joe1_53 : E := (.ic .eql joe1_51 (.li 1))
def joe1_54 : E := (.tf joe1_43 (.lf 0) (.tf joe1_45 (.vf 128) (.tf joe1_47 (.vf 115) (.tf joe1_48 (.vf 118) (.fb .add (.vf 121) (.vf 122))))))
def joe1_55 : E := (.tf joe1_43 (.lf 0) (.tf joe1_45 (.vf 131) (.tf joe1_47 (.vf 116) (.tf joe1_48 (.vf 119) (.fb .add (.vf 123) (.vf 124))))))
def joe1_56 : E := (.ai 9 0 (.ci (.ib .quo .i64 (.at 1 2) (.li 4)) (.ci (.li 5) .n0)))
def joe1_57 : E := (.ic .eql joe1_56 (.li 0))
def joe1_58 : E := (.ic .eql joe1_56 (.li 1))
def joe1_59 : E := (.ic .eql joe1_56 (.li 2))
def joe1_60 : E := (.ic .eql joe1_56 (.li 3))
def joe1_61 : E := (.ai 9 0 (.ci (.ib .quo .i64 (.at 1 2) (.li 40)) (.ci (.li 5) .n0)))
def joe1_62 : E := (.ic .eql joe1_61 (.li 0))
def joe1_63 : E := (.ic .eql joe1_61 (.li 1))
def joe1_64 : E := (.ic .eql joe1_61 (.li 2))
def joe1_65 : E := (.ic .eql joe1_61 (.li 3))
def joe1_66 : E := (.fb .quo (.vf 138) (.vf 139))
def joe1_67 : E := (.ib .sub .i64 (.ib .sub .i64 (.li 5) joe1_39) (.li 3))
def joe1_68 : E := (.ic .eql joe1_67 (.li 0))
def joe1_69 : E := (.ic .eql joe1_67 (.li 1))
def joe1_70 : E := (.ic .eql (.ai 9 0 (.ci (.at 1 2) (.ci (.li 11) .n0))) (.li 0))
def joe1_71 : E := (.fb .quo (.i2f (.ib .sub .i64 (.ai 9 0 (.ci (.ib .quo .i64 (.at 1 2) (.li 11)) (.ci (.li 33) .n0))) (.li 16))) (.lf 4620693217682128896))
def joe1_72 : E := (.ic .eql (.ai 9 0 (.ci (.at 1 2) (.ci (.li 7) .n0))) (.li 0))
def joe1_73 : E := (.ib .add .i64 (.li 2) (.ai 9 0 (.ci (.at 1 2) (.ci (.li 3) .n0))))
def joe1_74 : E := (.ic .eql joe1_73 (.li 2))
def joe1_75 : E := (.ic .eql joe1_73 (.li 3))
def joe1_76 : E := (.tf joe1_70 joe1_71 (.tf joe1_72 joe1_66 (.tf joe1_74 (.fb .add (.vf 138) (.vf 139)) (.tf joe1_75 (.fb .sub (.vf 138) (.vf 139)) (.fb .mul (.vf 138) (.vf 139))))))
def joe1_77 : E := (.ib .sub .i64 (.ib .sub .i64 (.li 5) joe1_50) (.li 3))
def joe1_78 : E := (.ic .eql joe1_77 (.li 0))
def joe1_79 : E := (.ic .eql joe1_77 (.li 1))
def joe1_80 : E := (.tf joe1_70 (.lf 0) (.tf joe1_72 (.vf 144) (.tf joe1_74 (.fb .add (.vf 140) (.vf 141)) (.tf joe1_75 (.fb .sub (.vf 140) (.vf 141)) (.fb .add (.fb .mul (.vf 140) (.vf 139)) (.fb .mul (.vf 138) (.vf 141)))))))
def joe1_81 : E := (.tf joe1_70 (.lf 0) (.tf joe1_72 (.vf 145) (.tf joe1_74 (.fb .add (.vf 142) (.vf 143)) (.tf joe1_75 (.fb .sub (.vf 142) (.vf 143)) (.fb .add (.fb .mul (.vf 142) (.vf 139)) (.fb .mul (.vf 138) (.vf 143)))))))
def joe1_82 : E := (.ai 9 0 (.ci (.ib .quo .i64 (.at 1 3) (.li 4)) (.ci (.li 6) .n0)))
def joe1_83 : E := (.ic .eql joe1_82 (.li 0))
def joe1_84 : E := (.ic .eql joe1_82 (.li 1))
def joe1_85 : E := (.ic .eql joe1_82 (.li 2))
def joe1_86 : E := (.ic .eql joe1_82 (.li 3))
def joe1_87 : E := (.ic .eql joe1_82 (.li 4))
def joe1_88 : E := (.ai 9 0 (.ci (.ib .quo .i64 (.at 1 3) (.li 40)) (.ci (.li 6) .n0)))
def joe1_89 : E := (.ic .eql joe1_88 (.li 0))
def joe1_90 : E := (.ic .eql joe1_88 (.li 1))
def joe1_91 : E := (.ic .eql joe1_88 (.li 2))
def joe1_92 : E := (.ic .eql joe1_88 (.li 3))
def joe1_93 : E := (.ic .eql joe1_88 (.li 4))
def joe1_94 : E := (.fb .quo (.vf 152) (.vf 153))
def joe1_95 : E := (.ib .sub .i64 (.ib .sub .i64 (.li 6) joe1_39) (.li 4))
def joe1_96 : E := (.ic .eql joe1_95 (.li 0))
def joe1_97 : E := (.ic .eql joe1_95 (.li 1))
def joe1_98 : E := (.ic .eql (.ai 9 0 (.ci (.at 1 3) (.ci (.li 11) .n0))) (.li 0))
def joe1_99 : E := (.fb .quo (.i2f (.ib .sub .i64 (.ai 9 0 (.ci (.ib .quo .i64 (.at 1 3) (.li 11)) (.ci (.li 33) .n0))) (.li 16))) (.lf 4620693217682128896))
def joe1_100 : E := (.ic .eql (.ai 9 0 (.ci (.at 1 3) (.ci (.li 7) .n0))) (.li 0))
def joe1_101 : E := (.ib .add .i64 (.li 2) (.ai 9 0 (.ci (.at 1 3) (.ci (.li 3) .n0))))
def joe1_102 : E := (.ic .eql joe1_101 (.li 2))
def joe1_103 : E := (.ic .eql joe1_101 (.li 3))
def joe1_104 : E := (.tf joe1_98 joe1_99 (.tf joe1_100 joe1_94 (.tf joe1_102 (.fb .add (.vf 152) (.vf 153)) (.tf joe1_103 (.fb .sub (.vf 152) (.vf 153)) (.fb .mul (.vf 152) (.vf 153))))))
def joe1_105 : E := (.ib .sub .i64 (.ib .sub .i64 (.li 6) joe1_50) (.li 4))
def joe1_106 : E := (.ic .eql joe1_105 (.li 0))
def joe1_107 : E := (.ic .eql joe1_105 (.li 1))
def joe1_108 : E := (.tf joe1_98 (.lf 0) (.tf joe1_100 (.vf 158) (.tf joe1_102 (.fb .add (.vf 154) (.vf 155)) (.tf joe1_103 (.fb .sub (.vf 154) (.vf 155)) (.fb .add (.fb .mul (.vf 154) (.vf 153)) (.fb .mul (.vf 152) (.vf 155)))))))
def joe1_109 : E := (.tf joe1_98 (.lf 0) (.tf joe1_100 (.vf 159) (.tf joe1_102 (.fb .add (.vf 156) (.vf 157)) (.tf joe1_103 (.fb .sub (.vf 156) (.vf 157)) (.fb .add (.fb .mul (.vf 156) (.vf 153)) (.fb .mul (.vf 152) (.vf 157)))))))
def joe1_110 : E := (.ai 9 0 (.ci (.ib .quo .i64 (.at 1 4) (.li 4)) (.ci (.li 7) .n0)))
def joe1_111 : E := (.ic .eql joe1_110 (.li 0))
def joe1_112 : E := (.ic .eql joe1_110 (.li 1))
def joe1_113 : E := (.ic .eql joe1_110 (.li 2))
def joe1_114 : E := (.ic .eql joe1_110 (.li 3))
def joe1_115 : E := (.ic .eql joe1_110 (.li 4))
def joe1_116 : E := (.ic .eql joe1_110 (.li 5))
def joe1_117 : E := (.ai 9 0 (.ci (.ib .quo .i64 (.at 1 4) (.li 40)) (.ci (.li 7) .n0)))
def joe1_118 : E := (.ic .eql joe1_117 (.li 0))
def joe1_119 : E := (.ic .eql joe1_117 (.li 1))
def joe1_120 : E := (.ic .eql joe1_117 (.li 2))
def joe1_121 : E := (.ic .eql joe1_117 (.li 3))
def joe1_122 : E := (.ic .eql joe1_117 (.li 4))
def joe1_123 : E := (.ic .eql joe1_117 (.li 5))
def joe1_124 : E := (.fb .quo (.vf 166) (.vf 167))
def joe1_125 : E := (.ib .sub .i64 (.ib .sub .i64 (.li 7) joe1_39) (.li 5))
def joe1_126 : E := (.ic .eql joe1_125 (.li 0))
def joe1_127 : E := (.ic .eql joe1_125 (.li 1))
def joe1_128 : E := (.ic .eql (.ai 9 0 (.ci (.at 1 4) (.ci (.li 11) .n0))) (.li 0))
def joe1_129 : E := (.fb .quo (.i2f (.ib .sub .i64 (.ai 9 0 (.ci (.ib .quo .i64 (.at 1 4) (.li 11)) (.ci (.li 33) .n0))) (.li 16))) (.lf 4620693217682128896))
def joe1_130 : E := (.ic .eql (.ai 9 0 (.ci (.at 1 4) (.ci (.li 7) .n0))) (.li 0))
def joe1_131 : E := (.ib .add .i64 (.li 2) (.ai 9 0 (.ci (.at 1 4) (.ci (.li 3) .n0))))
def joe1_132 : E := (.ic .eql joe1_131 (.li 2))
def joe1_133 : E := (.ic .eql joe1_131 (.li 3))
def joe1_134 : E := (.tf joe1_128 joe1_129 (.tf joe1_130 joe1_124 (.tf joe1_132 (.fb .add (.vf 166) (.vf 167)) (.tf joe1_133 (.fb .sub (.vf 166) (.vf 167)) (.fb .mul (.vf 166) (.vf 167))))))
def joe1_135 : E := (.ib .sub .i64 (.ib .sub .i64 (.li 7) joe1_50) (.li 5))
def joe1_136 : E := (.ic .eql joe1_135 (.li 0))
def joe1_137 : E := (.ic .eql joe1_135 (.li 1))
def joe1_138 : E := (.tf joe1_128 (.lf 0) (.tf joe1_130 (.vf 172) (.tf joe1_132 (.fb .add (.vf 168) (.vf 169)) (.tf joe1_133 (.fb .sub (.vf 168) (.vf 169)) (.fb .add (.fb .mul (.vf 168) (.vf 167)) (.fb .mul (.vf 166) (.vf 169)))))))
def joe1_139 : E := (.tf joe1_128 (.lf 0) (.tf joe1_130 (.vf 173) (.tf joe1_132 (.fb .add (.vf 170) (.vf 171)) (.tf joe1_133 (.fb .sub (.vf 170) (.vf 171)) (.fb .add (.fb .mul (.vf 170) (.vf 167)) (.fb .mul (.vf 166) (.vf 171)))))))
def joe1_140 : E := (.ai 9 0 (.ci (.ib .quo .i64 (.at 1 5) (.li 4)) (.ci (.li 8) .n0)))
def joe1_141 : E := (.ic .eql joe1_140 (.li 0))
def joe1_142 : E := (.ic .eql joe1_140 (.li 1))
def joe1_143 : E := (.ic .eql joe1_140 (.li 2))
def joe1_144 : E := (.ic .eql joe1_140 (.li 3))
def joe1_145 : E := (.ic .eql joe1_140 (.li 4))
def joe1_146 : E := (.ic .eql joe1_140 (.li 5))
def joe1_147 : E := (.ic .eql joe1_140 (.li 6))
def joe1_148 : E := (.ai 9 0 (.ci (.ib .quo .i64 (.at 1 5) (.li 40)) (.ci (.li 8) .n0)))
def joe1_149 : E := (.ic .eql joe1_148 (.li 0))
def joe1_150 : E := (.ic .eql joe1_148 (.li 1))
def joe1_151 : E := (.ic .eql joe1_148 (.li 2))
def joe1_152 : E := (.ic .eql joe1_148 (.li 3))
def joe1_153 : E := (.ic .eql joe1_148 (.li 4))
def joe1_154 : E := (.ic .eql joe1_148 (.li 5))
def joe1_155 : E := (.ic .eql joe1_148 (.li 6))
def joe1_156 : E := (.fb .quo (.vf 180) (.vf 181))
def joe1_157 : E := (.ib .sub .i64 (.ib .sub .i64 (.li 8) joe1_39) (.li 6))
def joe1_158 : E := (.ic .eql joe1_157 (.li 0))
def joe1_159 : E := (.ic .eql joe1_157 (.li 1))
def joe1_160 : E := (.ic .eql (.ai 9 0 (.ci (.at 1 5) (.ci (.li 11) .n0))) (.li 0))
def joe1_161 : E := (.fb .quo (.i2f (.ib .sub .i64 (.ai 9 0 (.ci (.ib .quo .i64 (.at 1 5) (.li 11)) (.ci (.li 33) .n0))) (.li 16))) (.lf 4620693217682128896))
def joe1_162 : E := (.ic .eql (.ai 9 0 (.ci (.at 1 5) (.ci (.li 7) .n0))) (.li 0))
def joe1_163 : E := (.ib .add .i64 (.li 2) (.ai 9 0 (.ci (.at 1 5) (.ci (.li 3) .n0))))
def joe1_164 : E := (.ic .eql joe1_163 (.li 2))
def joe1_165 : E := (.ic .eql joe1_163 (.li 3))
def joe1_166 : E := (.tf joe1_160 joe1_161 (.tf joe1_162 joe1_156 (.tf joe1_164 (.fb .add (.vf 180) (.vf 181)) (.tf joe1_165 (.fb .sub (.vf 180) (.vf 181)) (.fb .mul (.vf 180) (.vf 181))))))
def joe1_167 : E := (.ib .sub .i64 (.ib .sub .i64 (.li 8) joe1_50) (.li 6))
def joe1_168 : E := (.ic .eql joe1_167 (.li 0))
def joe1_169 : E := (.ic .eql joe1_167 (.li 1))
def joe1_170 : E := (.tf joe1_160 (.lf 0) (.tf joe1_162 (.vf 186) (.tf joe1_164 (.fb .add (.vf 182) (.vf 183)) (.tf joe1_165 (.fb .sub (.vf 182) (.vf 183)) (.fb .add (.fb .mul (.vf 182) (.vf 181)) (.fb .mul (.vf 180) (.vf 183)))))))
def joe1_171 : E := (.tf joe1_160 (.lf 0) (.tf joe1_162 (.vf 187) (.tf joe1_164 (.fb .add (.vf 184) (.vf 185)) (.tf joe1_165 (.fb .sub (.vf 184) (.vf 185)) (.fb .add (.fb .mul (.vf 184) (.vf 181)) (.fb .mul (.vf 180) (.vf 185)))))))
def joe1_172 : E := (.ai 9 0 (.ci (.ib .quo .i64 (.at 1 6) (.li 4)) (.ci (.li 9) .n0)))
def joe1_173 : E := (.ic .eql joe1_172 (.li 0))
def joe1_174 : E := (.ic .eql joe1_172 (.li 1))
def joe1_175 : E := (.ic .eql joe1_172 (.li 2))
def joe1_176 : E := (.ic .eql joe1_172 (.li 3))
def joe1_177 : E := (.ic .eql joe1_172 (.li 4))
def joe1_178 : E := (.ic .eql joe1_172 (.li 5))
def joe1_179 : E := (.ic .eql joe1_172 (.li 6))
def joe1_180 : E := (.ic .eql joe1_172 (.li 7))
def joe1_181 : E := (.ai 9 0 (.ci (.ib .quo .i64 (.at 1 6) (.li 40)) (.ci (.li 9) .n0)))
def joe1_182 : E := (.ic .eql joe1_181 (.li 0))
def joe1_183 : E := (.ic .eql joe1_181 (.li 1))
def joe1_184 : E := (.ic .eql joe1_181 (.li 2))
def joe1_185 : E := (.ic .eql joe1_181 (.li 3))
def joe1_186 : E := (.ic .eql joe1_181 (.li 4))
def joe1_187 : E := (.ic .eql joe1_181 (.li 5))
def joe1_188 : E := (.ic .eql joe1_181 (.li 6))
def joe1_189 : E := (.ic .eql joe1_181 (.li 7))
def joe1_190 : E := (.fb .quo (.vf 194) (.vf 195))
def joe1_191 : E := (.ib .sub .i64 (.ib .sub .i64 (.li 9) joe1_39) (.li 7))
def joe1_192 : E := (.ic .eql joe1_191 (.li 0))
def joe1_193 : E := (.ic .eql joe1_191 (.li 1))
def joe1_194 : E := (.ic .eql (.ai 9 0 (.ci (.at 1 6) (.ci (.li 11) .n0))) (.li 0))
def joe1_195 : E := (.fb .quo (.i2f (.ib .sub .i64 (.ai 9 0 (.ci (.ib .quo .i64 (.at 1 6) (.li 11)) (.ci (.li 33) .n0))) (.li 16))) (.lf 4620693217682128896))
def joe1_196 : E := (.ic .eql (.ai 9 0 (.ci (.at 1 6) (.ci (.li 7) .n0))) (.li 0))
def joe1_197 : E := (.ib .add .i64 (.li 2) (.ai 9 0 (.ci (.at 1 6) (.ci (.li 3) .n0))))
def joe1_198 : E := (.ic .eql joe1_197 (.li 2))
def joe1_199 : E := (.ic .eql joe1_197 (.li 3))
def joe1_200 : E := (.tf joe1_194 joe1_195 (.tf joe1_196 joe1_190 (.tf joe1_198 (.fb .add (.vf 194) (.vf 195)) (.tf joe1_199 (.fb .sub (.vf 194) (.vf 195)) (.fb .mul (.vf 194) (.vf 195))))))
def joe1_201 : E := (.ib .sub .i64 (.ib .sub .i64 (.li 9) joe1_50) (.li 7))
def joe1_202 : E := (.ic .eql joe1_201 (.li 0))
def joe1_203 : E := (.ic .eql joe1_201 (.li 1))
def joe1_204 : E := (.tf joe1_194 (.lf 0) (.tf joe1_196 (.vf 200) (.tf joe1_198 (.fb .add (.vf 196) (.vf 197)) (.tf joe1_199 (.fb .sub (.vf 196) (.vf 197)) (.fb .add (.fb .mul (.vf 196) (.vf 195)) (.fb .mul (.vf 194) (.vf 197)))))))
def joe1_205 : E := (.tf joe1_194 (.lf 0) (.tf joe1_196 (.vf 201) (.tf joe1_198 (.fb .add (.vf 198) (.vf 199)) (.tf joe1_199 (.fb .sub (.vf 198) (.vf 199)) (.fb .add (.fb .mul (.vf 198) (.vf 195)) (.fb .mul (.vf 194) (.vf 199)))))))
def joe1_206 : E := (.ai 9 0 (.ci (.ib .quo .i64 (.at 1 7) (.li 4)) (.ci (.li 10) .n0)))
def joe1_207 : E := (.ic .eql joe1_206 (.li 0))
def joe1_208 : E := (.ic .eql joe1_206 (.li 1))
def joe1_209 : E := (.ic .eql joe1_206 (.li 2))
def joe1_210 : E := (.ic .eql joe1_206 (.li 3))
def joe1_211 : E := (.ic .eql joe1_206 (.li 4))
def joe1_212 : E := (.ic .eql joe1_206 (.li 5))
def joe1_213 : E := (.ic .eql joe1_206 (.li 6))
def joe1_214 : E := (.ic .eql joe1_206 (.li 7))
def joe1_215 : E := (.ic .eql joe1_206 (.li 8))
def joe1_216 : E := (.ai 9 0 (.ci (.ib .quo .i64 (.at 1 7) (.li 40)) (.ci (.li 10) .n0)))
def joe1_217 : E := (.ic .eql joe1_216 (.li 0))
def joe1_218 : E := (.ic .eql joe1_216 (.li 1))
def joe1_219 : E := (.ic .eql joe1_216 (.li 2))
def joe1_220 : E := (.ic .eql joe1_216 (.li 3))
def joe1_221 : E := (.ic .eql joe1_216 (.li 4))
def joe1_222 : E := (.ic .eql joe1_216 (.li 5))
def joe1_223 : E := (.ic .eql joe1_216 (.li 6))
def joe1_224 : E := (.ic .eql joe1_216 (.li 7))
def joe1_225 : E := (.ic .eql joe1_216 (.li 8))
def joe1_226 : E := (.fb .quo (.vf 208) (.vf 209))
def joe1_227 : E := (.ib .sub .i64 (.ib .sub .i64 (.li 10) joe1_39) (.li 8))
def joe1_228 : E := (.ic .eql joe1_227 (.li 0))
def joe1_229 : E := (.ic .eql joe1_227 (.li 1))
def joe1_230 : E := (.ic .eql (.ai 9 0 (.ci (.at 1 7) (.ci (.li 11) .n0))) (.li 0))
def joe1_231 : E := (.fb .quo (.i2f (.ib .sub .i64 (.ai 9 0 (.ci (.ib .quo .i64 (.at 1 7) (.li 11)) (.ci (.li 33) .n0))) (.li 16))) (.lf 4620693217682128896))
def joe1_232 : E := (.ic .eql (.ai 9 0 (.ci (.at 1 7) (.ci (.li 7) .n0))) (.li 0))
def joe1_233 : E := (.ib .add .i64 (.li 2) (.ai 9 0 (.ci (.at 1 7) (.ci (.li 3) .n0))))
def joe1_234 : E := (.ic .eql joe1_233 (.li 2))
def joe1_235 : E := (.ic .eql joe1_233 (.li 3))
def joe1_236 : E := (.tf joe1_230 joe1_231 (.tf joe1_232 joe1_226 (.tf joe1_234 (.fb .add (.vf 208) (.vf 209)) (.tf joe1_235 (.fb .sub (.vf 208) (.vf 209)) (.fb .mul (.vf 208) (.vf 209))))))
def joe1_237 : E := (.ib .sub .i64 (.ib .sub .i64 (.li 10) joe1_50) (.li 8))
def joe1_238 : E := (.ic .eql joe1_237 (.li 0))
def joe1_239 : E := (.ic .eql joe1_237 (.li 1))
def joe1_240 : E := (.tf joe1_230 (.lf 0) (.tf joe1_232 (.vf 214) (.tf joe1_234 (.fb .add (.vf 210) (.vf 211)) (.tf joe1_235 (.fb .sub (.vf 210) (.vf 211)) (.fb .add (.fb .mul (.vf 210) (.vf 209)) (.fb .mul (.vf 208) (.vf 211)))))))
def joe1_241 : E := (.tf joe1_230 (.lf 0) (.tf joe1_232 (.vf 215) (.tf joe1_234 (.fb .add (.vf 212) (.vf 213)) (.tf joe1_235 (.fb .sub (.vf 212) (.vf 213)) (.fb .add (.fb .mul (.vf 212) (.vf 209)) (.fb .mul (.vf 208) (.vf 213)))))))
def joN1 : Nms := [(95586083, 100, (.fb .add joe1_6 joe1_10)),
  (3669174580, 101, (.fb .sub joe1_6 joe1_10)),
  (2947795786, 102, (.fb .mul joe1_6 joe1_10)),
  (4224281829, 103, (.fb .mul joe1_11 joe1_10)),
  (3005364937, 104, (.fb .mul joe1_6 joe1_12)),
  (4216089833, 105, (.fb .mul joe1_13 joe1_10)),
  (3066045739, 106, (.fb .mul joe1_6 joe1_14)),
  (2226416992, 107, (.fb .quo joe1_6 joe1_10)),
  (2328826549, 108, (.fb .mul (.vf 107) joe1_12)),
  (3304949616, 109, (.fb .sub joe1_11 (.vf 108))),
  (1551878610, 110, (.fb .quo (.vf 109) joe1_10)),
  (2389507351, 111, (.fb .mul (.vf 107) joe1_14)),
  (3296757623, 112, (.fb .sub joe1_13 (.vf 111))),
  (1554878619, 113, (.fb .quo (.vf 112) joe1_10)),
  (2330541207, 114, (.fb .add joe1_26 joe1_31)),
  (3301832154, 115, (.fb .add joe1_33 joe1_34)),
  (3948495488, 116, (.fb .add joe1_36 joe1_37)),
  (1609162413, 117, (.fb .sub joe1_26 joe1_31)),
  (2580453360, 118, (.fb .sub joe1_33 joe1_34)),
  (3227116694, 119, (.fb .sub joe1_36 joe1_37)),
  (887783619, 120, (.fb .mul joe1_26 joe1_31)),
  (1516753186, 121, (.fb .mul joe1_33 joe1_31)),
  (1230104999, 122, (.fb .mul joe1_26 joe1_34)),
  (1822010289, 123, (.fb .mul joe1_36 joe1_31)),
  (1571511230, 124, (.fb .mul joe1_26 joe1_37)),
  (166404825, 125, (.fb .quo joe1_26 joe1_31)),
  (1913699030, 126, (.fb .mul (.vf 125) joe1_34)),
  (1315300793, 127, (.fb .sub joe1_33 (.vf 126))),
  (851998862, 128, (.fb .quo (.vf 127) joe1_31)),
  (2255105261, 129, (.fb .mul (.vf 125) joe1_37)),
  (1620557899, 130, (.fb .sub joe1_36 (.vf 129))),
  (854998871, 131, (.fb .quo (.vf 130) joe1_31)),
  (2841849382, 132, (.tf joe1_41 joe1_5 (.tf joe1_42 joe1_25 joe1_49))),
  (549886840, 133, (.tf joe1_52 joe1_5 (.tf joe1_53 joe1_25 joe1_49))),
  (2845632471, 134, (.tf joe1_41 (.lf 0) (.tf joe1_42 joe1_32 joe1_54))),
  (3157889597, 135, (.tf joe1_41 (.lf 0) (.tf joe1_42 joe1_35 joe1_55))),
  (553669929, 136, (.tf joe1_52 (.lf 0) (.tf joe1_53 joe1_32 joe1_54))),
  (865927055, 137, (.tf joe1_52 (.lf 0) (.tf joe1_53 joe1_35 joe1_55))),
  (2637737915, 138, (.tf joe1_57 joe1_2 (.tf joe1_58 joe1_4 (.tf joe1_59 joe1_5 (.tf joe1_60 joe1_25 joe1_49))))),
  (813402679, 139, (.tf joe1_62 joe1_2 (.tf joe1_63 joe1_4 (.tf joe1_64 joe1_5 (.tf joe1_65 joe1_25 joe1_49))))),
  (4145755765, 140, (.tf joe1_57 (.lf 4607182418800017408) (.tf joe1_58 (.lf 0) (.tf joe1_59 (.lf 0) (.tf joe1_60 joe1_32 joe1_54))))),
  (2321420529, 141, (.tf joe1_62 (.lf 4607182418800017408) (.tf joe1_63 (.lf 0) (.tf joe1_64 (.lf 0) (.tf joe1_65 joe1_32 joe1_54))))),
  (163045600, 142, (.tf joe1_57 (.lf 0) (.tf joe1_58 (.lf 4607182418800017408) (.tf joe1_59 (.lf 0) (.tf joe1_60 joe1_35 joe1_55))))),
  (2633677655, 143, (.tf joe1_62 (.lf 0) (.tf joe1_63 (.lf 4607182418800017408) (.tf joe1_64 (.lf 0) (.tf joe1_65 joe1_35 joe1_55))))),
  (3532551624, 144, (.fb .quo (.fb .sub (.vf 140) (.fb .mul joe1_66 (.vf 141))) (.vf 139))),
  (2091794042, 145, (.fb .quo (.fb .sub (.vf 142) (.fb .mul joe1_66 (.vf 143))) (.vf 139))),
  (2623328037, 146, (.tf joe1_68 joe1_25 (.tf joe1_69 joe1_49 joe1_76))),
  (331365495, 147, (.tf joe1_78 joe1_25 (.tf joe1_79 joe1_49 joe1_76))),
  (623141002, 148, (.tf joe1_68 joe1_32 (.tf joe1_69 joe1_54 joe1_80))),
  (147408388, 149, (.tf joe1_68 joe1_35 (.tf joe1_69 joe1_55 joe1_81))),
  (2626145751, 150, (.tf joe1_78 joe1_32 (.tf joe1_79 joe1_54 joe1_80))),
  (2150413137, 151, (.tf joe1_78 joe1_35 (.tf joe1_79 joe1_55 joe1_81))),
  (4162903822, 152, (.tf joe1_83 joe1_2 (.tf joe1_84 joe1_4 (.tf joe1_85 joe1_5 (.tf joe1_86 joe1_25 (.tf joe1_87 joe1_49 joe1_76)))))),
  (1882484777, 153, (.tf joe1_89 joe1_2 (.tf joe1_90 joe1_4 (.tf joe1_91 joe1_5 (.tf joe1_92 joe1_25 (.tf joe1_93 joe1_49 joe1_76)))))),
  (645802824, 154, (.tf joe1_83 (.lf 4607182418800017408) (.tf joe1_84 (.lf 0) (.tf joe1_85 (.lf 0) (.tf joe1_86 joe1_32 (.tf joe1_87 joe1_54 joe1_80)))))),
  (2660351070, 155, (.tf joe1_89 (.lf 4607182418800017408) (.tf joe1_90 (.lf 0) (.tf joe1_91 (.lf 0) (.tf joe1_92 joe1_32 (.tf joe1_93 joe1_54 joe1_80)))))),
  (170070210, 156, (.tf joe1_83 (.lf 0) (.tf joe1_84 (.lf 4607182418800017408) (.tf joe1_85 (.lf 0) (.tf joe1_86 joe1_35 (.tf joe1_87 joe1_55 joe1_81)))))),
  (2184618456, 157, (.tf joe1_89 (.lf 0) (.tf joe1_90 (.lf 4607182418800017408) (.tf joe1_91 (.lf 0) (.tf joe1_92 joe1_35 (.tf joe1_93 joe1_55 joe1_81)))))),
  (3525817849, 158, (.fb .quo (.fb .sub (.vf 154) (.fb .mul joe1_94 (.vf 155))) (.vf 153))),
  (2085060267, 159, (.fb .quo (.fb .sub (.vf 156) (.fb .mul joe1_94 (.vf 157))) (.vf 153))),
  (264205675, 160, (.tf joe1_96 joe1_49 (.tf joe1_97 joe1_76 joe1_104))),
  (2267210424, 161, (.tf joe1_106 joe1_49 (.tf joe1_107 joe1_76 joe1_104))),
  (3660976052, 162, (.tf joe1_96 joe1_54 (.tf joe1_97 joe1_80 joe1_108))),
  (1173517657, 163, (.tf joe1_96 joe1_55 (.tf joe1_97 joe1_81 joe1_109))),
  (1369013510, 164, (.tf joe1_106 joe1_54 (.tf joe1_107 joe1_80 joe1_108))),
  (3176522406, 165, (.tf joe1_106 joe1_55 (.tf joe1_107 joe1_81 joe1_109))),
  (1837487195, 166, (.tf joe1_111 joe1_2 (.tf joe1_112 joe1_4 (.tf joe1_113 joe1_5 (.tf joe1_114 joe1_25 (.tf joe1_115 joe1_49 (.tf joe1_116 joe1_76 joe1_104))))))),
  (3395951632, 167, (.tf joe1_118 joe1_2 (.tf joe1_119 joe1_4 (.tf joe1_120 joe1_5 (.tf joe1_121 joe1_25 (.tf joe1_122 joe1_49 (.tf joe1_123 joe1_76 joe1_104))))))),
  (542415939, 168, (.tf joe1_111 (.lf 4607182418800017408) (.tf joe1_112 (.lf 0) (.tf joe1_113 (.lf 0) (.tf joe1_114 joe1_32 (.tf joe1_115 joe1_54 (.tf joe1_116 joe1_80 joe1_108))))))),
  (2100880376, 169, (.tf joe1_118 (.lf 4607182418800017408) (.tf joe1_119 (.lf 0) (.tf joe1_120 (.lf 0) (.tf joe1_121 joe1_32 (.tf joe1_122 joe1_54 (.tf joe1_123 joe1_80 joe1_108))))))),
  (2655181938, 170, (.tf joe1_111 (.lf 0) (.tf joe1_112 (.lf 4607182418800017408) (.tf joe1_113 (.lf 0) (.tf joe1_114 joe1_35 (.tf joe1_115 joe1_55 (.tf joe1_116 joe1_81 joe1_109))))))),
  (4213646375, 171, (.tf joe1_118 (.lf 0) (.tf joe1_119 (.lf 4607182418800017408) (.tf joe1_120 (.lf 0) (.tf joe1_121 joe1_35 (.tf joe1_122 joe1_55 (.tf joe1_123 joe1_81 joe1_109))))))),
  (3519084074, 172, (.fb .quo (.fb .sub (.vf 168) (.fb .mul joe1_124 (.vf 169))) (.vf 167))),
  (2078326492, 173, (.fb .quo (.fb .sub (.vf 170) (.fb .mul joe1_124 (.vf 171))) (.vf 167))),
  (1124062660, 174, (.tf joe1_126 joe1_76 (.tf joe1_127 joe1_104 joe1_134))),
  (3127067409, 175, (.tf joe1_136 joe1_76 (.tf joe1_137 joe1_104 joe1_134))),
  (1250483358, 176, (.tf joe1_126 joe1_80 (.tf joe1_127 joe1_108 joe1_138))),
  (2104207837, 177, (.tf joe1_126 joe1_81 (.tf joe1_127 joe1_109 joe1_139))),
  (3253488107, 178, (.tf joe1_136 joe1_80 (.tf joe1_137 joe1_108 joe1_138))),
  (4107212586, 179, (.tf joe1_136 joe1_81 (.tf joe1_137 joe1_109 joe1_139))),
  (1580573077, 180, (.tf joe1_141 joe1_2 (.tf joe1_142 joe1_4 (.tf joe1_143 joe1_5 (.tf joe1_144 joe1_25 (.tf joe1_145 joe1_49 (.tf joe1_146 joe1_76 (.tf joe1_147 joe1_104 joe1_134)))))))),
  (2682953705, 181, (.tf joe1_149 joe1_2 (.tf joe1_150 joe1_4 (.tf joe1_151 joe1_5 (.tf joe1_152 joe1_25 (.tf joe1_153 joe1_49 (.tf joe1_154 joe1_76 (.tf joe1_155 joe1_104 joe1_134)))))))),
  (3913826271, 182, (.tf joe1_141 (.lf 4607182418800017408) (.tf joe1_142 (.lf 0) (.tf joe1_143 (.lf 0) (.tf joe1_144 joe1_32 (.tf joe1_145 joe1_54 (.tf joe1_146 joe1_80 (.tf joe1_147 joe1_108 joe1_138)))))))),
  (721239608, 183, (.tf joe1_149 (.lf 4607182418800017408) (.tf joe1_150 (.lf 0) (.tf joe1_151 (.lf 0) (.tf joe1_152 joe1_32 (.tf joe1_153 joe1_54 (.tf joe1_154 joe1_80 (.tf joe1_155 joe1_108 joe1_138)))))))),
  (25156301, 184, (.tf joe1_141 (.lf 0) (.tf joe1_142 (.lf 4607182418800017408) (.tf joe1_143 (.lf 0) (.tf joe1_144 joe1_35 (.tf joe1_145 joe1_55 (.tf joe1_146 joe1_81 (.tf joe1_147 joe1_109 joe1_139)))))))),
  (1127536929, 185, (.tf joe1_149 (.lf 0) (.tf joe1_150 (.lf 4607182418800017408) (.tf joe1_151 (.lf 0) (.tf joe1_152 joe1_35 (.tf joe1_153 joe1_55 (.tf joe1_154 joe1_81 (.tf joe1_155 joe1_109 joe1_139)))))))),
  (3512350299, 186, (.fb .quo (.fb .sub (.vf 182) (.fb .mul joe1_156 (.vf 183))) (.vf 181))),
  (2071592717, 187, (.fb .quo (.fb .sub (.vf 184) (.fb .mul joe1_156 (.vf 185))) (.vf 181))),
  (1051911530, 188, (.tf joe1_158 joe1_104 (.tf joe1_159 joe1_134 joe1_166))),
  (3054916279, 189, (.tf joe1_168 joe1_104 (.tf joe1_169 joe1_134 joe1_166))),
  (2430428676, 190, (.tf joe1_158 joe1_108 (.tf joe1_159 joe1_138 joe1_170))),
  (3284153155, 191, (.tf joe1_158 joe1_109 (.tf joe1_159 joe1_139 joe1_171))),
  (138466134, 192, (.tf joe1_168 joe1_108 (.tf joe1_169 joe1_138 joe1_170))),
  (992190613, 193, (.tf joe1_168 joe1_109 (.tf joe1_169 joe1_139 joe1_171))),
  (3392161468, 194, (.tf joe1_173 joe1_2 (.tf joe1_174 joe1_4 (.tf joe1_175 joe1_5 (.tf joe1_176 joe1_25 (.tf joe1_177 joe1_49 (.tf joe1_178 joe1_76 (.tf joe1_179 joe1_104 (.tf joe1_180 joe1_134 joe1_166))))))))),
  (4038458287, 195, (.tf joe1_182 joe1_2 (.tf joe1_183 joe1_4 (.tf joe1_184 joe1_5 (.tf joe1_185 joe1_25 (.tf joe1_186 joe1_49 (.tf joe1_187 joe1_76 (.tf joe1_188 joe1_104 (.tf joe1_189 joe1_134 joe1_166))))))))),
  (2170099238, 196, (.tf joe1_173 (.lf 4607182418800017408) (.tf joe1_174 (.lf 0) (.tf joe1_175 (.lf 0) (.tf joe1_176 joe1_32 (.tf joe1_177 joe1_54 (.tf joe1_178 joe1_80 (.tf joe1_179 joe1_108 (.tf joe1_180 joe1_138 joe1_170))))))))),
  (2816396057, 197, (.tf joe1_182 (.lf 4607182418800017408) (.tf joe1_183 (.lf 0) (.tf joe1_184 (.lf 0) (.tf joe1_185 joe1_32 (.tf joe1_186 joe1_54 (.tf joe1_187 joe1_80 (.tf joe1_188 joe1_108 (.tf joe1_189 joe1_138 joe1_170))))))))),
  (869927881, 198, (.tf joe1_173 (.lf 0) (.tf joe1_174 (.lf 4607182418800017408) (.tf joe1_175 (.lf 0) (.tf joe1_176 joe1_35 (.tf joe1_177 joe1_55 (.tf joe1_178 joe1_81 (.tf joe1_179 joe1_109 (.tf joe1_180 joe1_139 joe1_171))))))))),
  (1516224700, 199, (.tf joe1_182 (.lf 0) (.tf joe1_183 (.lf 4607182418800017408) (.tf joe1_184 (.lf 0) (.tf joe1_185 joe1_35 (.tf joe1_186 joe1_55 (.tf joe1_187 joe1_81 (.tf joe1_188 joe1_109 (.tf joe1_189 joe1_139 joe1_171))))))))),
  (3505616524, 200, (.fb .quo (.fb .sub (.vf 196) (.fb .mul joe1_190 (.vf 197))) (.vf 195))),
  (2064858942, 201, (.fb .quo (.fb .sub (.vf 198) (.fb .mul joe1_190 (.vf 199))) (.vf 195))),
  (979760400, 202, (.tf joe1_192 joe1_134 (.tf joe1_193 joe1_166 joe1_200))),
  (2982765149, 203, (.tf joe1_202 joe1_134 (.tf joe1_203 joe1_166 joe1_200))),
  (3610373994, 204, (.tf joe1_192 joe1_138 (.tf joe1_193 joe1_170 joe1_204))),
  (169131182, 205, (.tf joe1_192 joe1_139 (.tf joe1_193 joe1_171 joe1_205))),
  (1318411452, 206, (.tf joe1_202 joe1_138 (.tf joe1_203 joe1_170 joe1_204))),
  (2172135931, 207, (.tf joe1_202 joe1_139 (.tf joe1_203 joe1_171 joe1_205))),
  (2977285077, 208, (.tf joe1_207 joe1_2 (.tf joe1_208 joe1_4 (.tf joe1_209 joe1_5 (.tf joe1_210 joe1_25 (.tf joe1_211 joe1_49 (.tf joe1_212 joe1_76 (.tf joe1_213 joe1_104 (.tf joe1_214 joe1_134 (.tf joe1_215 joe1_166 joe1_200)))))))))),
  (3167498087, 209, (.tf joe1_217 joe1_2 (.tf joe1_218 joe1_4 (.tf joe1_219 joe1_5 (.tf joe1_220 joe1_25 (.tf joe1_221 joe1_49 (.tf joe1_222 joe1_76 (.tf joe1_223 joe1_104 (.tf joe1_224 joe1_134 (.tf joe1_225 joe1_166 joe1_200)))))))))),
  (3901169422, 210, (.tf joe1_207 (.lf 4607182418800017408) (.tf joe1_208 (.lf 0) (.tf joe1_209 (.lf 0) (.tf joe1_210 joe1_32 (.tf joe1_211 joe1_54 (.tf joe1_212 joe1_80 (.tf joe1_213 joe1_108 (.tf joe1_214 joe1_138 (.tf joe1_215 joe1_170 joe1_204)))))))))),
  (4091382432, 211, (.tf joe1_217 (.lf 4607182418800017408) (.tf joe1_218 (.lf 0) (.tf joe1_219 (.lf 0) (.tf joe1_220 joe1_32 (.tf joe1_221 joe1_54 (.tf joe1_222 joe1_80 (.tf joe1_223 joe1_108 (.tf joe1_224 joe1_138 (.tf joe1_225 joe1_170 joe1_204)))))))))),
  (894529387, 212, (.tf joe1_207 (.lf 0) (.tf joe1_208 (.lf 4607182418800017408) (.tf joe1_209 (.lf 0) (.tf joe1_210 joe1_35 (.tf joe1_211 joe1_55 (.tf joe1_212 joe1_81 (.tf joe1_213 joe1_109 (.tf joe1_214 joe1_139 (.tf joe1_215 joe1_171 joe1_205)))))))))),
  (1084742397, 213, (.tf joe1_217 (.lf 0) (.tf joe1_218 (.lf 4607182418800017408) (.tf joe1_219 (.lf 0) (.tf joe1_220 joe1_35 (.tf joe1_221 joe1_55 (.tf joe1_222 joe1_81 (.tf joe1_223 joe1_109 (.tf joe1_224 joe1_139 (.tf joe1_225 joe1_171 joe1_205)))))))))),
  (3498882749, 214, (.fb .quo (.fb .sub (.vf 210) (.fb .mul joe1_226 (.vf 211))) (.vf 209))),
  (2058125167, 215, (.fb .quo (.fb .sub (.vf 212) (.fb .mul joe1_226 (.vf 213))) (.vf 209))),
  (907609270, 216, (.tf joe1_228 joe1_166 (.tf joe1_229 joe1_200 joe1_236))),
  (2910614019, 217, (.tf joe1_238 joe1_166 (.tf joe1_239 joe1_200 joe1_236))),
  (1283738509, 218, (.tf joe1_230 joe1_231 (.tf joe1_194 joe1_195 (.tf joe1_160 joe1_161 (.tf joe1_128 joe1_129 (.tf joe1_98 joe1_99 (.tf joe1_70 joe1_71 (.tf joe1_43 joe1_44 (.tf joe1_19 joe1_20 joe1_5))))))))),
  (495352021, 219, (.tf joe1_228 joe1_170 (.tf joe1_229 joe1_204 joe1_240))),
  (1349076500, 220, (.tf joe1_228 joe1_171 (.tf joe1_229 joe1_205 joe1_241))),
  (2498356770, 221, (.tf joe1_238 joe1_170 (.tf joe1_239 joe1_204 joe1_240))),
  (3352081249, 222, (.tf joe1_238 joe1_171 (.tf joe1_239 joe1_205 joe1_241)))]
set_option maxRecDepth 1000000 in
set_option maxHeartbeats 100000000 in
theorem joG1 : tabGood 100 joN1 = true := by kernel_rfl
end Go.Proofs.Ytlgifofnejncpaa
