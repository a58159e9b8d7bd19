/-
  'JacOwn': what names stand for, where the first rest is 0.
-/
import Derived.Test.YtlgifofnejncpaaM4n
namespace Go.Proofs.Ytlgifofnejncpaa
open Go.RowKit Ex
def joe0_0 : E := (.ic .eql (.ai 9 0 (.ci (.ib .quo .i64 (.at 1 0) (.li 4)) (.ci (.li 2) .n0))) (.li 0))
def joe0_1 : E := (.fb .quo (.i2f (.ib .sub .i64 (.ai 9 0 (.ci (.ti (.ic .lss (.li 0) (.vl 2)) (.at 2 0) (.li 0)) (.ci (.li 65) .n0))) (.li 32))) (.lf 4620693217682128896))
def joe0_2 : E := (.fb .quo (.i2f (.ib .sub .i64 (.ai 9 0 (.ci (.vi 0) (.ci (.li 17) .n0))) (.li 8))) (.lf 4616189618054758400))
def joe0_3 : E := (.tf joe0_0 joe0_1 joe0_2)
def joe0_4 : E := (.ic .eql (.ai 9 0 (.ci (.ib .quo .i64 (.at 1 0) (.li 40)) (.ci (.li 2) .n0))) (.li 0))
def joe0_5 : E := (.tf joe0_4 joe0_1 joe0_2)
def joe0_6 : E := (.tf joe0_0 (.lf 4607182418800017408) (.lf 0))
def joe0_7 : E := (.tf joe0_4 (.lf 4607182418800017408) (.lf 0))
def joe0_8 : E := (.ai 9 0 (.ci (.ib .quo .i64 (.at 1 1) (.li 4)) (.ci (.li 3) .n0)))
def joe0_9 : E := (.ic .eql joe0_8 (.li 0))
def joe0_10 : E := (.ic .eql joe0_8 (.li 1))
def joe0_11 : E := (.ic .eql (.ai 9 0 (.ci (.at 1 0) (.ci (.li 11) .n0))) (.li 0))
def joe0_12 : E := (.fb .quo (.i2f (.ib .sub .i64 (.ai 9 0 (.ci (.ib .quo .i64 (.at 1 0) (.li 11)) (.ci (.li 33) .n0))) (.li 16))) (.lf 4620693217682128896))
def joe0_13 : E := (.ic .eql (.ai 9 0 (.ci (.at 1 0) (.ci (.li 7) .n0))) (.li 0))
def joe0_14 : E := (.ib .add .i64 (.li 2) (.ai 9 0 (.ci (.at 1 0) (.ci (.li 3) .n0))))
def joe0_15 : E := (.ic .eql joe0_14 (.li 2))
def joe0_16 : E := (.ic .eql joe0_14 (.li 3))
def joe0_17 : E := (.tf joe0_11 joe0_12 (.tf joe0_13 (.vf 104) (.tf joe0_15 (.vf 100) (.tf joe0_16 (.vf 101) (.vf 102)))))
def joe0_18 : E := (.tf joe0_9 joe0_1 (.tf joe0_10 joe0_2 joe0_17))
def joe0_19 : E := (.ai 9 0 (.ci (.ib .quo .i64 (.at 1 1) (.li 40)) (.ci (.li 3) .n0)))
def joe0_20 : E := (.ic .eql joe0_19 (.li 0))
def joe0_21 : E := (.ic .eql joe0_19 (.li 1))
def joe0_22 : E := (.tf joe0_20 joe0_1 (.tf joe0_21 joe0_2 joe0_17))
def joe0_23 : E := (.tf joe0_11 (.lf 0) (.tf joe0_13 (.vf 107) (.tf joe0_15 (.fb .add joe0_6 joe0_7) (.tf joe0_16 (.fb .sub joe0_6 joe0_7) (.vf 103)))))
def joe0_24 : E := (.tf joe0_9 (.lf 4607182418800017408) (.tf joe0_10 (.lf 0) joe0_23))
def joe0_25 : E := (.tf joe0_20 (.lf 4607182418800017408) (.tf joe0_21 (.lf 0) joe0_23))
def joe0_26 : E := (.ai 9 0 (.ci (.ib .add .i64 (.ib .quo .i64 (.vi 0) (.li 3)) (.li 0)) (.ci (.li 3) .n0)))
def joe0_27 : E := (.ib .sub .i64 (.ib .sub .i64 (.li 3) joe0_26) (.li 1))
def joe0_28 : E := (.ic .eql joe0_27 (.li 0))
def joe0_29 : E := (.ic .eql joe0_27 (.li 1))
def joe0_30 : E := (.ic .eql (.ai 9 0 (.ci (.at 1 1) (.ci (.li 11) .n0))) (.li 0))
def joe0_31 : E := (.fb .quo (.i2f (.ib .sub .i64 (.ai 9 0 (.ci (.ib .quo .i64 (.at 1 1) (.li 11)) (.ci (.li 33) .n0))) (.li 16))) (.lf 4620693217682128896))
def joe0_32 : E := (.ic .eql (.ai 9 0 (.ci (.at 1 1) (.ci (.li 7) .n0))) (.li 0))
def joe0_33 : E := (.ib .add .i64 (.li 2) (.ai 9 0 (.ci (.at 1 1) (.ci (.li 3) .n0))))
def joe0_34 : E := (.ic .eql joe0_33 (.li 2))
def joe0_35 : E := (.ic .eql joe0_33 (.li 3))
def joe0_36 : E := (.tf joe0_30 joe0_31 (.tf joe0_32 (.vf 115) (.tf joe0_34 (.vf 108) (.tf joe0_35 (.vf 110) (.vf 112)))))
def joe0_37 : E := (.tf joe0_30 (.lf 0) (.tf joe0_32 (.vf 118) (.tf joe0_34 (.vf 109) (.tf joe0_35 (.vf 111) (.fb .add (.vf 113) (.vf 114))))))
def joe0_38 : E := (.ai 9 0 (.ci (.ib .quo .i64 (.at 1 2) (.li 4)) (.ci (.li 4) .n0)))
def joe0_39 : E := (.ic .eql joe0_38 (.li 0))
def joe0_40 : E := (.ic .eql joe0_38 (.li 1))
def joe0_41 : E := (.ic .eql joe0_38 (.li 2))
def joe0_42 : E := (.ai 9 0 (.ci (.ib .quo .i64 (.at 1 2) (.li 40)) (.ci (.li 4) .n0)))
def joe0_43 : E := (.ic .eql joe0_42 (.li 0))
def joe0_44 : E := (.ic .eql joe0_42 (.li 1))
def joe0_45 : E := (.ic .eql joe0_42 (.li 2))
def joe0_46 : E := (.fb .quo (.vf 121) (.vf 122))
def joe0_47 : E := (.ib .sub .i64 (.ib .sub .i64 (.li 4) joe0_26) (.li 2))
def joe0_48 : E := (.ic .eql joe0_47 (.li 0))
def joe0_49 : E := (.ic .eql joe0_47 (.li 1))
def joe0_50 : E := (.ic .eql (.ai 9 0 (.ci (.at 1 2) (.ci (.li 11) .n0))) (.li 0))
def joe0_51 : E := (.fb .quo (.i2f (.ib .sub .i64 (.ai 9 0 (.ci (.ib .quo .i64 (.at 1 2) (.li 11)) (.ci (.li 33) .n0))) (.li 16))) (.lf 4620693217682128896))
def joe0_52 : E := (.ic .eql (.ai 9 0 (.ci (.at 1 2) (.ci (.li 7) .n0))) (.li 0))
def joe0_53 : E := (.ib .add .i64 (.li 2) (.ai 9 0 (.ci (.at 1 2) (.ci (.li 3) .n0))))
def joe0_54 : E := (.ic .eql joe0_53 (.li 2))
def joe0_55 : E := (.ic .eql joe0_53 (.li 3))
def joe0_56 : E := (.tf joe0_50 joe0_51 (.tf joe0_52 joe0_46 (.tf joe0_54 (.fb .add (.vf 121) (.vf 122)) (.tf joe0_55 (.fb .sub (.vf 121) (.vf 122)) (.fb .mul (.vf 121) (.vf 122))))))
def joe0_57 : E := (.tf joe0_50 (.lf 0) (.tf joe0_52 (.vf 125) (.tf joe0_54 (.fb .add (.vf 123) (.vf 124)) (.tf joe0_55 (.fb .sub (.vf 123) (.vf 124)) (.fb .add (.fb .mul (.vf 123) (.vf 122)) (.fb .mul (.vf 121) (.vf 124)))))))
def joe0_58 : E := (.ai 9 0 (.ci (.ib .quo .i64 (.at 1 3) (.li 4)) (.ci (.li 5) .n0)))
def joe0_59 : E := (.ic .eql joe0_58 (.li 0))
def joe0_60 : E := (.ic .eql joe0_58 (.li 1))
def joe0_61 : E := (.ic .eql joe0_58 (.li 2))
def joe0_62 : E := (.ic .eql joe0_58 (.li 3))
def joe0_63 : E := (.ai 9 0 (.ci (.ib .quo .i64 (.at 1 3) (.li 40)) (.ci (.li 5) .n0)))
def joe0_64 : E := (.ic .eql joe0_63 (.li 0))
def joe0_65 : E := (.ic .eql joe0_63 (.li 1))
def joe0_66 : E := (.ic .eql joe0_63 (.li 2))
def joe0_67 : E := (.ic .eql joe0_63 (.li 3))
def joe0_68 : E := (.fb .quo (.vf 128) (.vf 129))
def joe0_69 : E := (.ib .sub .i64 (.ib .sub .i64 (.li 5) joe0_26) (.li 3))
def joe0_70 : E := (.ic .eql joe0_69 (.li 0))
def joe0_71 : E := (.ic .eql joe0_69 (.li 1))
def joe0_72 : E := (.ic .eql (.ai 9 0 (.ci (.at 1 3) (.ci (.li 11) .n0))) (.li 0))
def joe0_73 : E := (.fb .quo (.i2f (.ib .sub .i64 (.ai 9 0 (.ci (.ib .quo .i64 (.at 1 3) (.li 11)) (.ci (.li 33) .n0))) (.li 16))) (.lf 4620693217682128896))
def joe0_74 : E := (.ic .eql (.ai 9 0 (.ci (.at 1 3) (.ci (.li 7) .n0))) (.li 0))
def joe0_75 : E := (.ib .add .i64 (.li 2) (.ai 9 0 (.ci (.at 1 3) (.ci (.li 3) .n0))))
def joe0_76 : E := (.ic .eql joe0_75 (.li 2))
def joe0_77 : E := (.ic .eql joe0_75 (.li 3))
def joe0_78 : E := (.tf joe0_72 joe0_73 (.tf joe0_74 joe0_68 (.tf joe0_76 (.fb .add (.vf 128) (.vf 129)) (.tf joe0_77 (.fb .sub (.vf 128) (.vf 129)) (.fb .mul (.vf 128) (.vf 129))))))
def joe0_79 : E := (.tf joe0_72 (.lf 0) (.tf joe0_74 (.vf 132) (.tf joe0_76 (.fb .add (.vf 130) (.vf 131)) (.tf joe0_77 (.fb .sub (.vf 130) (.vf 131)) (.fb .add (.fb .mul (.vf 130) (.vf 129)) (.fb .mul (.vf 128) (.vf 131)))))))
def joe0_80 : E := (.ai 9 0 (.ci (.ib .quo .i64 (.at 1 4) (.li 4)) (.ci (.li 6) .n0)))
def joe0_81 : E := (.ic .eql joe0_80 (.li 0))
def joe0_82 : E := (.ic .eql joe0_80 (.li 1))
def joe0_83 : E := (.ic .eql joe0_80 (.li 2))
def joe0_84 : E := (.ic .eql joe0_80 (.li 3))
def joe0_85 : E := (.ic .eql joe0_80 (.li 4))
def joe0_86 : E := (.ai 9 0 (.ci (.ib .quo .i64 (.at 1 4) (.li 40)) (.ci (.li 6) .n0)))
def joe0_87 : E := (.ic .eql joe0_86 (.li 0))
def joe0_88 : E := (.ic .eql joe0_86 (.li 1))
def joe0_89 : E := (.ic .eql joe0_86 (.li 2))
def joe0_90 : E := (.ic .eql joe0_86 (.li 3))
def joe0_91 : E := (.ic .eql joe0_86 (.li 4))
def joe0_92 : E := (.fb .quo (.vf 135) (.vf 136))
def joe0_93 : E := (.ib .sub .i64 (.ib .sub .i64 (.li 6) joe0_26) (.li 4))
def joe0_94 : E := (.ic .eql joe0_93 (.li 0))
def joe0_95 : E := (.ic .eql joe0_93 (.li 1))
def joe0_96 : E := (.ic .eql (.ai 9 0 (.ci (.at 1 4) (.ci (.li 11) .n0))) (.li 0))
def joe0_97 : E := (.fb .quo (.i2f (.ib .sub .i64 (.ai 9 0 (.ci (.ib .quo .i64 (.at 1 4) (.li 11)) (.ci (.li 33) .n0))) (.li 16))) (.lf 4620693217682128896))
def joe0_98 : E := (.ic .eql (.ai 9 0 (.ci (.at 1 4) (.ci (.li 7) .n0))) (.li 0))
def joe0_99 : E := (.ib .add .i64 (.li 2) (.ai 9 0 (.ci (.at 1 4) (.ci (.li 3) .n0))))
def joe0_100 : E := (.ic .eql joe0_99 (.li 2))
def joe0_101 : E := (.ic .eql joe0_99 (.li 3))
def joe0_102 : E := (.tf joe0_96 joe0_97 (.tf joe0_98 joe0_92 (.tf joe0_100 (.fb .add (.vf 135) (.vf 136)) (.tf joe0_101 (.fb .sub (.vf 135) (.vf 136)) (.fb .mul (.vf 135) (.vf 136))))))
def joe0_103 : E := (.tf joe0_96 (.lf 0) (.tf joe0_98 (.vf 139) (.tf joe0_100 (.fb .add (.vf 137) (.vf 138)) (.tf joe0_101 (.fb .sub (.vf 137) (.vf 138)) (.fb .add (.fb .mul (.vf 137) (.vf 136)) (.fb .mul (.vf 135) (.vf 138)))))))
def joe0_104 : E := (.ai 9 0 (.ci (.ib .quo .i64 (.at 1 5) (.li 4)) (.ci (.li 7) .n0)))
def joe0_105 : E := (.ic .eql joe0_104 (.li 0))
def joe0_106 : E := (.ic .eql joe0_104 (.li 1))
def joe0_107 : E := (.ic .eql joe0_104 (.li 2))
def joe0_108 : E := (.ic .eql joe0_104 (.li 3))
def joe0_109 : E := (.ic .eql joe0_104 (.li 4))
def joe0_110 : E := (.ic .eql joe0_104 (.li 5))
def joe0_111 : E := (.ai 9 0 (.ci (.ib .quo .i64 (.at 1 5) (.li 40)) (.ci (.li 7) .n0)))
def joe0_112 : E := (.ic .eql joe0_111 (.li 0))
def joe0_113 : E := (.ic .eql joe0_111 (.li 1))
def joe0_114 : E := (.ic .eql joe0_111 (.li 2))
def joe0_115 : E := (.ic .eql joe0_111 (.li 3))
def joe0_116 : E := (.ic .eql joe0_111 (.li 4))
def joe0_117 : E := (.ic .eql joe0_111 (.li 5))
def joe0_118 : E := (.fb .quo (.vf 142) (.vf 143))
def joe0_119 : E := (.ib .sub .i64 (.ib .sub .i64 (.li 7) joe0_26) (.li 5))
def joe0_120 : E := (.ic .eql joe0_119 (.li 0))
def joe0_121 : E := (.ic .eql joe0_119 (.li 1))
def joe0_122 : E := (.ic .eql (.ai 9 0 (.ci (.at 1 5) (.ci (.li 11) .n0))) (.li 0))
def joe0_123 : E := (.fb .quo (.i2f (.ib .sub .i64 (.ai 9 0 (.ci (.ib .quo .i64 (.at 1 5) (.li 11)) (.ci (.li 33) .n0))) (.li 16))) (.lf 4620693217682128896))
def joe0_124 : E := (.ic .eql (.ai 9 0 (.ci (.at 1 5) (.ci (.li 7) .n0))) (.li 0))
def joe0_125 : E := (.ib .add .i64 (.li 2) (.ai 9 0 (.ci (.at 1 5) (.ci (.li 3) .n0))))
def joe0_126 : E := (.ic .eql joe0_125 (.li 2))
def joe0_127 : E := (.ic .eql joe0_125 (.li 3))
def joe0_128 : E := (.tf joe0_122 joe0_123 (.tf joe0_124 joe0_118 (.tf joe0_126 (.fb .add (.vf 142) (.vf 143)) (.tf joe0_127 (.fb .sub (.vf 142) (.vf 143)) (.fb .mul (.vf 142) (.vf 143))))))
def joe0_129 : E := (.tf joe0_122 (.lf 0) (.tf joe0_124 (.vf 146) (.tf joe0_126 (.fb .add (.vf 144) (.vf 145)) (.tf joe0_127 (.fb .sub (.vf 144) (.vf 145)) (.fb .add (.fb .mul (.vf 144) (.vf 143)) (.fb .mul (.vf 142) (.vf 145)))))))
def joe0_130 : E := (.ai 9 0 (.ci (.ib .quo .i64 (.at 1 6) (.li 4)) (.ci (.li 8) .n0)))
def joe0_131 : E := (.ic .eql joe0_130 (.li 0))
def joe0_132 : E := (.ic .eql joe0_130 (.li 1))
def joe0_133 : E := (.ic .eql joe0_130 (.li 2))
def joe0_134 : E := (.ic .eql joe0_130 (.li 3))
def joe0_135 : E := (.ic .eql joe0_130 (.li 4))
def joe0_136 : E := (.ic .eql joe0_130 (.li 5))
def joe0_137 : E := (.ic .eql joe0_130 (.li 6))
def joe0_138 : E := (.ai 9 0 (.ci (.ib .quo .i64 (.at 1 6) (.li 40)) (.ci (.li 8) .n0)))
def joe0_139 : E := (.ic .eql joe0_138 (.li 0))
def joe0_140 : E := (.ic .eql joe0_138 (.li 1))
def joe0_141 : E := (.ic .eql joe0_138 (.li 2))
def joe0_142 : E := (.ic .eql joe0_138 (.li 3))
def joe0_143 : E := (.ic .eql joe0_138 (.li 4))
def joe0_144 : E := (.ic .eql joe0_138 (.li 5))
def joe0_145 : E := (.ic .eql joe0_138 (.li 6))
def joe0_146 : E := (.fb .quo (.vf 149) (.vf 150))
def joe0_147 : E := (.ib .sub .i64 (.ib .sub .i64 (.li 8) joe0_26) (.li 6))
def joe0_148 : E := (.ic .eql joe0_147 (.li 0))
def joe0_149 : E := (.ic .eql joe0_147 (.li 1))
def joe0_150 : E := (.ic .eql (.ai 9 0 (.ci (.at 1 6) (.ci (.li 11) .n0))) (.li 0))
def joe0_151 : E := (.fb .quo (.i2f (.ib .sub .i64 (.ai 9 0 (.ci (.ib .quo .i64 (.at 1 6) (.li 11)) (.ci (.li 33) .n0))) (.li 16))) (.lf 4620693217682128896))
def joe0_152 : E := (.ic .eql (.ai 9 0 (.ci (.at 1 6) (.ci (.li 7) .n0))) (.li 0))
def joe0_153 : E := (.ib .add .i64 (.li 2) (.ai 9 0 (.ci (.at 1 6) (.ci (.li 3) .n0))))
def joe0_154 : E := (.ic .eql joe0_153 (.li 2))
def joe0_155 : E := (.ic .eql joe0_153 (.li 3))
def joe0_156 : E := (.tf joe0_150 joe0_151 (.tf joe0_152 joe0_146 (.tf joe0_154 (.fb .add (.vf 149) (.vf 150)) (.tf joe0_155 (.fb .sub (.vf 149) (.vf 150)) (.fb .mul (.vf 149) (.vf 150))))))
def joe0_157 : E := (.tf joe0_150 (.lf 0) (.tf joe0_152 (.vf 153) (.tf joe0_154 (.fb .add (.vf 151) (.vf 152)) (.tf joe0_155 (.fb .sub (.vf 151) (.vf 152)) (.fb .add (.fb .mul (.vf 151) (.vf 150)) (.fb .mul (.vf 149) (.vf 152)))))))
def joe0_158 : E := (.ai 9 0 (.ci (.ib .quo .i64 (.at 1 7) (.li 4)) (.ci (.li 9) .n0)))
def joe0_159 : E := (.ic .eql joe0_158 (.li 0))
def joe0_160 : E := (.ic .eql joe0_158 (.li 1))
def joe0_161 : E := (.ic .eql joe0_158 (.li 2))
def joe0_162 : E := (.ic .eql joe0_158 (.li 3))
def joe0_163 : E := (.ic .eql joe0_158 (.li 4))
def joe0_164 : E := (.ic .eql joe0_158 (.li 5))
def joe0_165 : E := (.ic .eql joe0_158 (.li 6))
def joe0_166 : E := (.ic .eql joe0_158 (.li 7))
def joe0_167 : E := (.ai 9 0 (.ci (.ib .quo .i64 (.at 1 7) (.li 40)) (.ci (.li 9) .n0)))
def joe0_168 : E := (.ic .eql joe0_167 (.li 0))
def joe0_169 : E := (.ic .eql joe0_167 (.li 1))
def joe0_170 : E := (.ic .eql joe0_167 (.li 2))
def joe0_171 : E := (.ic .eql joe0_167 (.li 3))
def joe0_172 : E := (.ic .eql joe0_167 (.li 4))
def joe0_173 : E := (.ic .eql joe0_167 (.li 5))
def joe0_174 : E := (.ic .eql joe0_167 (.li 6))
def joe0_175 : E := (.ic .eql joe0_167 (.li 7))
def joe0_176 : E := (.fb .quo (.vf 156) (.vf 157))
def joe0_177 : E := (.ib .sub .i64 (.ib .sub .i64 (.li 9) joe0_26) (.li 7))
def joe0_178 : E := (.ic .eql joe0_177 (.li 0))
def joe0_179 : E := (.ic .eql joe0_177 (.li 1))
def joe0_180 : E := (.ic .eql (.ai 9 0 (.ci (.at 1 7) (.ci (.li 11) .n0))) (.li 0))
def joe0_181 : E := (.fb .quo (.i2f (.ib .sub .i64 (.ai 9 0 (.ci (.ib .quo .i64 (.at 1 7) (.li 11)) (.ci (.li 33) .n0))) (.li 16))) (.lf 4620693217682128896))
def joe0_182 : E := (.ic .eql (.ai 9 0 (.ci (.at 1 7) (.ci (.li 7) .n0))) (.li 0))
def joe0_183 : E := (.ib .add .i64 (.li 2) (.ai 9 0 (.ci (.at 1 7) (.ci (.li 3) .n0))))
def joe0_184 : E := (.ic .eql joe0_183 (.li 2))
def joe0_185 : E := (.ic .eql joe0_183 (.li 3))
def joN0 : Nms := [(1469992919, 100, (.fb .add joe0_3 joe0_5)),
  (748614125, 101, (.fb .sub joe0_3 joe0_5)),
  (27235331, 102, (.fb .mul joe0_3 joe0_5)),
  (1831282667, 103, (.fb .add (.fb .mul joe0_6 joe0_5) (.fb .mul joe0_3 joe0_7))),
  (3600823828, 104, (.fb .quo joe0_3 joe0_5)),
  (1026144418, 105, (.fb .mul (.vf 104) joe0_7)),
  (155963593, 106, (.fb .sub joe0_6 (.vf 105))),
  (2786347897, 107, (.fb .quo (.vf 106) joe0_5)),
  (551523287, 108, (.fb .add joe0_18 joe0_22)),
  (2082504734, 109, (.fb .add joe0_24 joe0_25)),
  (4125111784, 110, (.fb .sub joe0_18 joe0_22)),
  (1361125940, 111, (.fb .sub joe0_24 joe0_25)),
  (3403732990, 112, (.fb .mul joe0_18 joe0_22)),
  (3892848203, 113, (.fb .mul joe0_24 joe0_22)),
  (150631933, 114, (.fb .mul joe0_18 joe0_25)),
  (2682354196, 115, (.fb .quo joe0_18 joe0_22)),
  (1106613475, 116, (.fb .mul (.vf 115) joe0_25)),
  (893058888, 117, (.fb .sub joe0_24 (.vf 116))),
  (3640335744, 118, (.fb .quo (.vf 117) joe0_22)),
  (282708317, 119, (.tf joe0_28 joe0_2 (.tf joe0_29 joe0_17 joe0_36))),
  (3416368592, 120, (.tf joe0_28 (.lf 0) (.tf joe0_29 joe0_23 joe0_37))),
  (98060375, 121, (.tf joe0_39 joe0_1 (.tf joe0_40 joe0_2 (.tf joe0_41 joe0_17 joe0_36)))),
  (3024776239, 122, (.tf joe0_43 joe0_1 (.tf joe0_44 joe0_2 (.tf joe0_45 joe0_17 joe0_36)))),
  (2138123191, 123, (.tf joe0_39 (.lf 4607182418800017408) (.tf joe0_40 (.lf 0) (.tf joe0_41 joe0_23 joe0_37)))),
  (769871764, 124, (.tf joe0_43 (.lf 4607182418800017408) (.tf joe0_44 (.lf 0) (.tf joe0_45 joe0_23 joe0_37)))),
  (2620378217, 125, (.fb .quo (.fb .sub (.vf 123) (.fb .mul joe0_46 (.vf 124))) (.vf 122))),
  (1853610068, 126, (.tf joe0_48 joe0_17 (.tf joe0_49 joe0_36 joe0_56))),
  (153395956, 127, (.tf joe0_48 joe0_23 (.tf joe0_49 joe0_37 joe0_57))),
  (681549712, 128, (.tf joe0_59 joe0_1 (.tf joe0_60 joe0_2 (.tf joe0_61 joe0_17 (.tf joe0_62 joe0_36 joe0_56))))),
  (3152181767, 129, (.tf joe0_64 joe0_1 (.tf joe0_65 joe0_2 (.tf joe0_66 joe0_17 (.tf joe0_67 joe0_36 joe0_56))))),
  (3456523999, 130, (.tf joe0_59 (.lf 4607182418800017408) (.tf joe0_60 (.lf 0) (.tf joe0_61 joe0_23 (.tf joe0_62 joe0_37 joe0_57))))),
  (1632188763, 131, (.tf joe0_64 (.lf 4607182418800017408) (.tf joe0_65 (.lf 0) (.tf joe0_66 joe0_23 (.tf joe0_67 joe0_37 joe0_57))))),
  (469527684, 132, (.fb .quo (.fb .sub (.vf 130) (.fb .mul joe0_68 (.vf 131))) (.vf 129))),
  (2401776007, 133, (.tf joe0_70 joe0_36 (.tf joe0_71 joe0_56 joe0_78))),
  (3774937289, 134, (.tf joe0_70 joe0_37 (.tf joe0_71 joe0_57 joe0_79))),
  (696458102, 135, (.tf joe0_81 joe0_1 (.tf joe0_82 joe0_2 (.tf joe0_83 joe0_17 (.tf joe0_84 joe0_36 (.tf joe0_85 joe0_56 joe0_78)))))),
  (2711006348, 136, (.tf joe0_87 joe0_1 (.tf joe0_88 joe0_2 (.tf joe0_89 joe0_17 (.tf joe0_90 joe0_36 (.tf joe0_91 joe0_56 joe0_78)))))),
  (2212790032, 137, (.tf joe0_81 (.lf 4607182418800017408) (.tf joe0_82 (.lf 0) (.tf joe0_83 joe0_23 (.tf joe0_84 joe0_37 (.tf joe0_85 joe0_57 joe0_79)))))),
  (4227338278, 138, (.tf joe0_87 (.lf 4607182418800017408) (.tf joe0_88 (.lf 0) (.tf joe0_89 joe0_23 (.tf joe0_90 joe0_37 (.tf joe0_91 joe0_57 joe0_79)))))),
  (2613644442, 139, (.fb .quo (.fb .sub (.vf 137) (.fb .mul joe0_92 (.vf 138))) (.vf 136))),
  (1001495856, 140, (.tf joe0_94 joe0_56 (.tf joe0_95 joe0_78 joe0_102))),
  (3492191148, 141, (.tf joe0_94 joe0_57 (.tf joe0_95 joe0_79 joe0_103))),
  (3442084838, 142, (.tf joe0_105 joe0_1 (.tf joe0_106 joe0_2 (.tf joe0_107 joe0_17 (.tf joe0_108 joe0_36 (.tf joe0_109 joe0_56 (.tf joe0_110 joe0_78 joe0_102))))))),
  (705581984, 143, (.tf joe0_112 joe0_1 (.tf joe0_113 joe0_2 (.tf joe0_114 joe0_17 (.tf joe0_115 joe0_36 (.tf joe0_116 joe0_56 (.tf joe0_117 joe0_78 joe0_102))))))),
  (1565786095, 144, (.tf joe0_105 (.lf 4607182418800017408) (.tf joe0_106 (.lf 0) (.tf joe0_107 joe0_23 (.tf joe0_108 joe0_37 (.tf joe0_109 joe0_57 (.tf joe0_110 joe0_79 joe0_103))))))),
  (3124250532, 145, (.tf joe0_112 (.lf 4607182418800017408) (.tf joe0_113 (.lf 0) (.tf joe0_114 joe0_23 (.tf joe0_115 joe0_37 (.tf joe0_116 joe0_57 (.tf joe0_117 joe0_79 joe0_103))))))),
  (462793909, 146, (.fb .quo (.fb .sub (.vf 144) (.fb .mul joe0_118 (.vf 145))) (.vf 143))),
  (194861819, 147, (.tf joe0_120 joe0_78 (.tf joe0_121 joe0_102 joe0_128))),
  (1145054781, 148, (.tf joe0_120 joe0_79 (.tf joe0_121 joe0_103 joe0_129))),
  (328495338, 149, (.tf joe0_131 joe0_1 (.tf joe0_132 joe0_2 (.tf joe0_133 joe0_17 (.tf joe0_134 joe0_36 (.tf joe0_135 joe0_56 (.tf joe0_136 joe0_78 (.tf joe0_137 joe0_102 joe0_128)))))))),
  (1430875966, 150, (.tf joe0_139 joe0_1 (.tf joe0_140 joe0_2 (.tf joe0_141 joe0_17 (.tf joe0_142 joe0_36 (.tf joe0_143 joe0_56 (.tf joe0_144 joe0_78 (.tf joe0_145 joe0_102 joe0_128)))))))),
  (1515512188, 151, (.tf joe0_131 (.lf 4607182418800017408) (.tf joe0_132 (.lf 0) (.tf joe0_133 joe0_23 (.tf joe0_134 joe0_37 (.tf joe0_135 joe0_57 (.tf joe0_136 joe0_79 (.tf joe0_137 joe0_103 joe0_129)))))))),
  (2617892816, 152, (.tf joe0_139 (.lf 4607182418800017408) (.tf joe0_140 (.lf 0) (.tf joe0_141 joe0_23 (.tf joe0_142 joe0_37 (.tf joe0_143 joe0_57 (.tf joe0_144 joe0_79 (.tf joe0_145 joe0_103 joe0_129)))))))),
  (2606910667, 153, (.fb .quo (.fb .sub (.vf 151) (.fb .mul joe0_146 (.vf 152))) (.vf 150))),
  (3683195073, 154, (.tf joe0_148 joe0_102 (.tf joe0_149 joe0_128 joe0_156))),
  (3092885705, 155, (.tf joe0_148 joe0_103 (.tf joe0_149 joe0_129 joe0_157))),
  (4240591475, 156, (.tf joe0_159 joe0_1 (.tf joe0_160 joe0_2 (.tf joe0_161 joe0_17 (.tf joe0_162 joe0_36 (.tf joe0_163 joe0_56 (.tf joe0_164 joe0_78 (.tf joe0_165 joe0_102 (.tf joe0_166 joe0_128 joe0_156))))))))),
  (591921003, 157, (.tf joe0_168 joe0_1 (.tf joe0_169 joe0_2 (.tf joe0_170 joe0_17 (.tf joe0_171 joe0_36 (.tf joe0_172 joe0_56 (.tf joe0_173 joe0_78 (.tf joe0_174 joe0_102 (.tf joe0_175 joe0_128 joe0_156))))))))),
  (2061968311, 158, (.tf joe0_159 (.lf 4607182418800017408) (.tf joe0_160 (.lf 0) (.tf joe0_161 joe0_23 (.tf joe0_162 joe0_37 (.tf joe0_163 joe0_57 (.tf joe0_164 joe0_79 (.tf joe0_165 joe0_103 (.tf joe0_166 joe0_129 joe0_157))))))))),
  (2708265130, 159, (.tf joe0_168 (.lf 4607182418800017408) (.tf joe0_169 (.lf 0) (.tf joe0_170 joe0_23 (.tf joe0_171 joe0_37 (.tf joe0_172 joe0_57 (.tf joe0_173 joe0_79 (.tf joe0_174 joe0_103 (.tf joe0_175 joe0_129 joe0_157))))))))),
  (456060134, 160, (.fb .quo (.fb .sub (.vf 158) (.fb .mul joe0_176 (.vf 159))) (.vf 157))),
  (2876561036, 161, (.tf joe0_178 joe0_128 (.tf joe0_179 joe0_156 (.tf joe0_180 joe0_181 (.tf joe0_182 joe0_176 (.tf joe0_184 (.fb .add (.vf 156) (.vf 157)) (.tf joe0_185 (.fb .sub (.vf 156) (.vf 157)) (.fb .mul (.vf 156) (.vf 157))))))))),
  (1283738509, 162, (.tf joe0_180 joe0_181 (.tf joe0_150 joe0_151 (.tf joe0_122 joe0_123 (.tf joe0_96 joe0_97 (.tf joe0_72 joe0_73 (.tf joe0_50 joe0_51 (.tf joe0_30 joe0_31 (.tf joe0_11 joe0_12 joe0_2))))))))),
  (745749338, 163, (.tf joe0_178 joe0_129 (.tf joe0_179 joe0_157 (.tf joe0_180 (.lf 0) (.tf joe0_182 (.vf 160) (.tf joe0_184 (.fb .add (.vf 158) (.vf 159)) (.tf joe0_185 (.fb .sub (.vf 158) (.vf 159)) (.fb .add (.fb .mul (.vf 158) (.vf 157)) (.fb .mul (.vf 156) (.vf 159))))))))))]
set_option maxRecDepth 1000000 in
set_option maxHeartbeats 100000000 in
theorem joG0 : tabGood 100 joN0 = true := by kernel_rfl
end Go.Proofs.Ytlgifofnejncpaa
