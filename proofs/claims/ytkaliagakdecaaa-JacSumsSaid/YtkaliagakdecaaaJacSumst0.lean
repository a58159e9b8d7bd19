/-
  'JacSums': what names stand for, where the first rest is 0.
-/
import Derived.Test.YtkaliagakdecaaaM4n
namespace Go.Proofs.Ytkaliagakdecaaa
open Go.RowKit Ex
def jse0_0 : E := (.ib .add .i64 (.ib .quo .i64 (.vi 0) (.li 3)) (.li 0))
def jse0_1 : E := (.i2f (.f2i (.fb .quo (.i2f (.ib .sub .i64 (.ai 9 0 (.ci (.ti (.ic .lss (.li 0) (.vl 2)) (.at 2 0) (.li 0)) (.ci (.li 65) .n0))) (.li 32))) (.lf 4620693217682128896))))
def jse0_2 : E := (.i2f (.f2i (.fb .quo (.i2f (.ib .sub .i64 (.ai 9 0 (.ci (.vi 0) (.ci (.li 17) .n0))) (.li 8))) (.lf 4616189618054758400))))
def jse0_3 : E := (.tf (.ic .eql (.ib .sub .i64 (.li 1) (.ai 9 0 (.ci jse0_0 (.ci (.li 2) .n0)))) (.li 0)) jse0_1 jse0_2)
def jse0_4 : E := (.ic .eql (.ai 9 0 (.ci (.ib .quo .i64 (.at 1 0) (.li 4)) (.ci (.li 2) .n0))) (.li 0))
def jse0_5 : E := (.tf jse0_4 jse0_1 jse0_2)
def jse0_6 : E := (.ic .eql (.ai 9 0 (.ci (.ib .quo .i64 (.at 1 0) (.li 40)) (.ci (.li 2) .n0))) (.li 0))
def jse0_7 : E := (.tf jse0_6 jse0_1 jse0_2)
def jse0_8 : E := (.tf jse0_4 (.lf 4607182418800017408) (.lf 0))
def jse0_9 : E := (.tf jse0_6 (.lf 4607182418800017408) (.lf 0))
def jse0_10 : E := (.ai 9 0 (.ci jse0_0 (.ci (.li 3) .n0)))
def jse0_11 : E := (.ib .sub .i64 (.li 2) jse0_10)
def jse0_12 : E := (.ic .eql jse0_11 (.li 0))
def jse0_13 : E := (.ic .eql jse0_11 (.li 1))
def jse0_14 : E := (.ic .eql (.ai 9 0 (.ci (.at 1 0) (.ci (.li 11) .n0))) (.li 0))
def jse0_15 : E := (.ib .add .i64 (.li 2) (.ai 9 0 (.ci (.at 1 0) (.ci (.li 3) .n0))))
def jse0_16 : E := (.ic .eql jse0_15 (.li 2))
def jse0_17 : E := (.ic .eql jse0_15 (.li 3))
def jse0_18 : E := (.tf jse0_14 (.i2f (.f2i (.fb .quo (.i2f (.ib .sub .i64 (.ai 9 0 (.ci (.ib .quo .i64 (.at 1 0) (.li 11)) (.ci (.li 33) .n0))) (.li 16))) (.lf 4620693217682128896)))) (.tf jse0_16 (.vf 102) (.tf jse0_17 (.vf 103) (.vf 104))))
def jse0_19 : E := (.tf jse0_12 jse0_1 (.tf jse0_13 jse0_2 jse0_18))
def jse0_20 : E := (.tf jse0_14 (.lf 0) (.tf jse0_16 (.fb .add jse0_8 jse0_9) (.tf jse0_17 (.fb .sub jse0_8 jse0_9) (.vf 105))))
def jse0_21 : E := (.tf jse0_12 (.lf 4607182418800017408) (.tf jse0_13 (.lf 0) jse0_20))
def jse0_22 : E := (.ai 9 0 (.ci (.ib .quo .i64 (.at 1 1) (.li 4)) (.ci (.li 3) .n0)))
def jse0_23 : E := (.ic .eql jse0_22 (.li 0))
def jse0_24 : E := (.ic .eql jse0_22 (.li 1))
def jse0_25 : E := (.tf jse0_23 jse0_1 (.tf jse0_24 jse0_2 jse0_18))
def jse0_26 : E := (.ai 9 0 (.ci (.ib .quo .i64 (.at 1 1) (.li 40)) (.ci (.li 3) .n0)))
def jse0_27 : E := (.ic .eql jse0_26 (.li 0))
def jse0_28 : E := (.ic .eql jse0_26 (.li 1))
def jse0_29 : E := (.tf jse0_27 jse0_1 (.tf jse0_28 jse0_2 jse0_18))
def jse0_30 : E := (.tf jse0_23 (.lf 4607182418800017408) (.tf jse0_24 (.lf 0) jse0_20))
def jse0_31 : E := (.tf jse0_27 (.lf 4607182418800017408) (.tf jse0_28 (.lf 0) jse0_20))
def jse0_32 : E := (.ib .sub .i64 (.ib .sub .i64 (.li 3) jse0_10) (.li 1))
def jse0_33 : E := (.ic .eql jse0_32 (.li 0))
def jse0_34 : E := (.ic .eql jse0_32 (.li 1))
def jse0_35 : E := (.ic .eql (.ai 9 0 (.ci (.at 1 1) (.ci (.li 11) .n0))) (.li 0))
def jse0_36 : E := (.ib .add .i64 (.li 2) (.ai 9 0 (.ci (.at 1 1) (.ci (.li 3) .n0))))
def jse0_37 : E := (.ic .eql jse0_36 (.li 2))
def jse0_38 : E := (.ic .eql jse0_36 (.li 3))
def jse0_39 : E := (.tf jse0_35 (.i2f (.f2i (.fb .quo (.i2f (.ib .sub .i64 (.ai 9 0 (.ci (.ib .quo .i64 (.at 1 1) (.li 11)) (.ci (.li 33) .n0))) (.li 16))) (.lf 4620693217682128896)))) (.tf jse0_37 (.vf 110) (.tf jse0_38 (.vf 112) (.vf 114))))
def jse0_40 : E := (.tf jse0_35 (.lf 0) (.tf jse0_37 (.vf 111) (.tf jse0_38 (.vf 113) (.fb .add (.vf 115) (.vf 116)))))
def jse0_41 : E := (.ai 9 0 (.ci (.ib .quo .i64 (.at 1 2) (.li 4)) (.ci (.li 4) .n0)))
def jse0_42 : E := (.ic .eql jse0_41 (.li 0))
def jse0_43 : E := (.ic .eql jse0_41 (.li 1))
def jse0_44 : E := (.ic .eql jse0_41 (.li 2))
def jse0_45 : E := (.ai 9 0 (.ci (.ib .quo .i64 (.at 1 2) (.li 40)) (.ci (.li 4) .n0)))
def jse0_46 : E := (.ic .eql jse0_45 (.li 0))
def jse0_47 : E := (.ic .eql jse0_45 (.li 1))
def jse0_48 : E := (.ic .eql jse0_45 (.li 2))
def jse0_49 : E := (.ib .sub .i64 (.ib .sub .i64 (.li 4) jse0_10) (.li 2))
def jse0_50 : E := (.ic .eql jse0_49 (.li 0))
def jse0_51 : E := (.ic .eql jse0_49 (.li 1))
def jse0_52 : E := (.ic .eql (.ai 9 0 (.ci (.at 1 2) (.ci (.li 11) .n0))) (.li 0))
def jse0_53 : E := (.ib .add .i64 (.li 2) (.ai 9 0 (.ci (.at 1 2) (.ci (.li 3) .n0))))
def jse0_54 : E := (.ic .eql jse0_53 (.li 2))
def jse0_55 : E := (.ic .eql jse0_53 (.li 3))
def jse0_56 : E := (.tf jse0_52 (.i2f (.f2i (.fb .quo (.i2f (.ib .sub .i64 (.ai 9 0 (.ci (.ib .quo .i64 (.at 1 2) (.li 11)) (.ci (.li 33) .n0))) (.li 16))) (.lf 4620693217682128896)))) (.tf jse0_54 (.fb .add (.vf 119) (.vf 120)) (.tf jse0_55 (.fb .sub (.vf 119) (.vf 120)) (.fb .mul (.vf 119) (.vf 120)))))
def jse0_57 : E := (.tf jse0_52 (.lf 0) (.tf jse0_54 (.fb .add (.vf 121) (.vf 122)) (.tf jse0_55 (.fb .sub (.vf 121) (.vf 122)) (.fb .add (.fb .mul (.vf 121) (.vf 120)) (.fb .mul (.vf 119) (.vf 122))))))
def jse0_58 : E := (.ai 9 0 (.ci (.ib .quo .i64 (.at 1 3) (.li 4)) (.ci (.li 5) .n0)))
def jse0_59 : E := (.ic .eql jse0_58 (.li 0))
def jse0_60 : E := (.ic .eql jse0_58 (.li 1))
def jse0_61 : E := (.ic .eql jse0_58 (.li 2))
def jse0_62 : E := (.ic .eql jse0_58 (.li 3))
def jse0_63 : E := (.ai 9 0 (.ci (.ib .quo .i64 (.at 1 3) (.li 40)) (.ci (.li 5) .n0)))
def jse0_64 : E := (.ic .eql jse0_63 (.li 0))
def jse0_65 : E := (.ic .eql jse0_63 (.li 1))
def jse0_66 : E := (.ic .eql jse0_63 (.li 2))
def jse0_67 : E := (.ic .eql jse0_63 (.li 3))
def jse0_68 : E := (.ib .sub .i64 (.ib .sub .i64 (.li 5) jse0_10) (.li 3))
def jse0_69 : E := (.ic .eql jse0_68 (.li 0))
def jse0_70 : E := (.ic .eql jse0_68 (.li 1))
def jse0_71 : E := (.ic .eql (.ai 9 0 (.ci (.at 1 3) (.ci (.li 11) .n0))) (.li 0))
def jse0_72 : E := (.ib .add .i64 (.li 2) (.ai 9 0 (.ci (.at 1 3) (.ci (.li 3) .n0))))
def jse0_73 : E := (.ic .eql jse0_72 (.li 2))
def jse0_74 : E := (.ic .eql jse0_72 (.li 3))
def jse0_75 : E := (.tf jse0_71 (.i2f (.f2i (.fb .quo (.i2f (.ib .sub .i64 (.ai 9 0 (.ci (.ib .quo .i64 (.at 1 3) (.li 11)) (.ci (.li 33) .n0))) (.li 16))) (.lf 4620693217682128896)))) (.tf jse0_73 (.fb .add (.vf 125) (.vf 126)) (.tf jse0_74 (.fb .sub (.vf 125) (.vf 126)) (.fb .mul (.vf 125) (.vf 126)))))
def jse0_76 : E := (.tf jse0_71 (.lf 0) (.tf jse0_73 (.fb .add (.vf 127) (.vf 128)) (.tf jse0_74 (.fb .sub (.vf 127) (.vf 128)) (.fb .add (.fb .mul (.vf 127) (.vf 126)) (.fb .mul (.vf 125) (.vf 128))))))
def jse0_77 : E := (.ai 9 0 (.ci (.ib .quo .i64 (.at 1 4) (.li 4)) (.ci (.li 6) .n0)))
def jse0_78 : E := (.ic .eql jse0_77 (.li 0))
def jse0_79 : E := (.ic .eql jse0_77 (.li 1))
def jse0_80 : E := (.ic .eql jse0_77 (.li 2))
def jse0_81 : E := (.ic .eql jse0_77 (.li 3))
def jse0_82 : E := (.ic .eql jse0_77 (.li 4))
def jse0_83 : E := (.ai 9 0 (.ci (.ib .quo .i64 (.at 1 4) (.li 40)) (.ci (.li 6) .n0)))
def jse0_84 : E := (.ic .eql jse0_83 (.li 0))
def jse0_85 : E := (.ic .eql jse0_83 (.li 1))
def jse0_86 : E := (.ic .eql jse0_83 (.li 2))
def jse0_87 : E := (.ic .eql jse0_83 (.li 3))
def jse0_88 : E := (.ic .eql jse0_83 (.li 4))
def jse0_89 : E := (.ib .sub .i64 (.ib .sub .i64 (.li 6) jse0_10) (.li 4))
def jse0_90 : E := (.ic .eql jse0_89 (.li 0))
def jse0_91 : E := (.ic .eql jse0_89 (.li 1))
def jse0_92 : E := (.ic .eql (.ai 9 0 (.ci (.at 1 4) (.ci (.li 11) .n0))) (.li 0))
def jse0_93 : E := (.ib .add .i64 (.li 2) (.ai 9 0 (.ci (.at 1 4) (.ci (.li 3) .n0))))
def jse0_94 : E := (.ic .eql jse0_93 (.li 2))
def jse0_95 : E := (.ic .eql jse0_93 (.li 3))
def jse0_96 : E := (.tf jse0_92 (.i2f (.f2i (.fb .quo (.i2f (.ib .sub .i64 (.ai 9 0 (.ci (.ib .quo .i64 (.at 1 4) (.li 11)) (.ci (.li 33) .n0))) (.li 16))) (.lf 4620693217682128896)))) (.tf jse0_94 (.fb .add (.vf 131) (.vf 132)) (.tf jse0_95 (.fb .sub (.vf 131) (.vf 132)) (.fb .mul (.vf 131) (.vf 132)))))
def jse0_97 : E := (.tf jse0_92 (.lf 0) (.tf jse0_94 (.fb .add (.vf 133) (.vf 134)) (.tf jse0_95 (.fb .sub (.vf 133) (.vf 134)) (.fb .add (.fb .mul (.vf 133) (.vf 132)) (.fb .mul (.vf 131) (.vf 134))))))
def jse0_98 : E := (.ai 9 0 (.ci (.ib .quo .i64 (.at 1 5) (.li 4)) (.ci (.li 7) .n0)))
def jse0_99 : E := (.ic .eql jse0_98 (.li 0))
def jse0_100 : E := (.ic .eql jse0_98 (.li 1))
def jse0_101 : E := (.ic .eql jse0_98 (.li 2))
def jse0_102 : E := (.ic .eql jse0_98 (.li 3))
def jse0_103 : E := (.ic .eql jse0_98 (.li 4))
def jse0_104 : E := (.ic .eql jse0_98 (.li 5))
def jse0_105 : E := (.ai 9 0 (.ci (.ib .quo .i64 (.at 1 5) (.li 40)) (.ci (.li 7) .n0)))
def jse0_106 : E := (.ic .eql jse0_105 (.li 0))
def jse0_107 : E := (.ic .eql jse0_105 (.li 1))
def jse0_108 : E := (.ic .eql jse0_105 (.li 2))
def jse0_109 : E := (.ic .eql jse0_105 (.li 3))
def jse0_110 : E := (.ic .eql jse0_105 (.li 4))
def jse0_111 : E := (.ic .eql jse0_105 (.li 5))
def jse0_112 : E := (.ib .sub .i64 (.ib .sub .i64 (.li 7) jse0_10) (.li 5))
def jse0_113 : E := (.ic .eql jse0_112 (.li 0))
def jse0_114 : E := (.ic .eql jse0_112 (.li 1))
def jse0_115 : E := (.ic .eql (.ai 9 0 (.ci (.at 1 5) (.ci (.li 11) .n0))) (.li 0))
def jse0_116 : E := (.ib .add .i64 (.li 2) (.ai 9 0 (.ci (.at 1 5) (.ci (.li 3) .n0))))
def jse0_117 : E := (.ic .eql jse0_116 (.li 2))
def jse0_118 : E := (.ic .eql jse0_116 (.li 3))
def jse0_119 : E := (.tf jse0_115 (.i2f (.f2i (.fb .quo (.i2f (.ib .sub .i64 (.ai 9 0 (.ci (.ib .quo .i64 (.at 1 5) (.li 11)) (.ci (.li 33) .n0))) (.li 16))) (.lf 4620693217682128896)))) (.tf jse0_117 (.fb .add (.vf 137) (.vf 138)) (.tf jse0_118 (.fb .sub (.vf 137) (.vf 138)) (.fb .mul (.vf 137) (.vf 138)))))
def jse0_120 : E := (.tf jse0_115 (.lf 0) (.tf jse0_117 (.fb .add (.vf 139) (.vf 140)) (.tf jse0_118 (.fb .sub (.vf 139) (.vf 140)) (.fb .add (.fb .mul (.vf 139) (.vf 138)) (.fb .mul (.vf 137) (.vf 140))))))
def jse0_121 : E := (.ai 9 0 (.ci (.ib .quo .i64 (.at 1 6) (.li 4)) (.ci (.li 8) .n0)))
def jse0_122 : E := (.ic .eql jse0_121 (.li 0))
def jse0_123 : E := (.ic .eql jse0_121 (.li 1))
def jse0_124 : E := (.ic .eql jse0_121 (.li 2))
def jse0_125 : E := (.ic .eql jse0_121 (.li 3))
def jse0_126 : E := (.ic .eql jse0_121 (.li 4))
def jse0_127 : E := (.ic .eql jse0_121 (.li 5))
def jse0_128 : E := (.ic .eql jse0_121 (.li 6))
def jse0_129 : E := (.ai 9 0 (.ci (.ib .quo .i64 (.at 1 6) (.li 40)) (.ci (.li 8) .n0)))
def jse0_130 : E := (.ic .eql jse0_129 (.li 0))
def jse0_131 : E := (.ic .eql jse0_129 (.li 1))
def jse0_132 : E := (.ic .eql jse0_129 (.li 2))
def jse0_133 : E := (.ic .eql jse0_129 (.li 3))
def jse0_134 : E := (.ic .eql jse0_129 (.li 4))
def jse0_135 : E := (.ic .eql jse0_129 (.li 5))
def jse0_136 : E := (.ic .eql jse0_129 (.li 6))
def jse0_137 : E := (.ib .sub .i64 (.ib .sub .i64 (.li 8) jse0_10) (.li 6))
def jse0_138 : E := (.ic .eql jse0_137 (.li 0))
def jse0_139 : E := (.ic .eql jse0_137 (.li 1))
def jse0_140 : E := (.ic .eql (.ai 9 0 (.ci (.at 1 6) (.ci (.li 11) .n0))) (.li 0))
def jse0_141 : E := (.ib .add .i64 (.li 2) (.ai 9 0 (.ci (.at 1 6) (.ci (.li 3) .n0))))
def jse0_142 : E := (.ic .eql jse0_141 (.li 2))
def jse0_143 : E := (.ic .eql jse0_141 (.li 3))
def jse0_144 : E := (.tf jse0_140 (.i2f (.f2i (.fb .quo (.i2f (.ib .sub .i64 (.ai 9 0 (.ci (.ib .quo .i64 (.at 1 6) (.li 11)) (.ci (.li 33) .n0))) (.li 16))) (.lf 4620693217682128896)))) (.tf jse0_142 (.fb .add (.vf 143) (.vf 144)) (.tf jse0_143 (.fb .sub (.vf 143) (.vf 144)) (.fb .mul (.vf 143) (.vf 144)))))
def jse0_145 : E := (.tf jse0_140 (.lf 0) (.tf jse0_142 (.fb .add (.vf 145) (.vf 146)) (.tf jse0_143 (.fb .sub (.vf 145) (.vf 146)) (.fb .add (.fb .mul (.vf 145) (.vf 144)) (.fb .mul (.vf 143) (.vf 146))))))
def jse0_146 : E := (.ai 9 0 (.ci (.ib .quo .i64 (.at 1 7) (.li 4)) (.ci (.li 9) .n0)))
def jse0_147 : E := (.ic .eql jse0_146 (.li 0))
def jse0_148 : E := (.ic .eql jse0_146 (.li 1))
def jse0_149 : E := (.ic .eql jse0_146 (.li 2))
def jse0_150 : E := (.ic .eql jse0_146 (.li 3))
def jse0_151 : E := (.ic .eql jse0_146 (.li 4))
def jse0_152 : E := (.ic .eql jse0_146 (.li 5))
def jse0_153 : E := (.ic .eql jse0_146 (.li 6))
def jse0_154 : E := (.ic .eql jse0_146 (.li 7))
def jse0_155 : E := (.ai 9 0 (.ci (.ib .quo .i64 (.at 1 7) (.li 40)) (.ci (.li 9) .n0)))
def jse0_156 : E := (.ic .eql jse0_155 (.li 0))
def jse0_157 : E := (.ic .eql jse0_155 (.li 1))
def jse0_158 : E := (.ic .eql jse0_155 (.li 2))
def jse0_159 : E := (.ic .eql jse0_155 (.li 3))
def jse0_160 : E := (.ic .eql jse0_155 (.li 4))
def jse0_161 : E := (.ic .eql jse0_155 (.li 5))
def jse0_162 : E := (.ic .eql jse0_155 (.li 6))
def jse0_163 : E := (.ic .eql jse0_155 (.li 7))
def jse0_164 : E := (.ib .sub .i64 (.ib .sub .i64 (.li 9) jse0_10) (.li 7))
def jse0_165 : E := (.ic .eql jse0_164 (.li 0))
def jse0_166 : E := (.ic .eql jse0_164 (.li 1))
def jse0_167 : E := (.ic .eql (.ai 9 0 (.ci (.at 1 7) (.ci (.li 11) .n0))) (.li 0))
def jse0_168 : E := (.ib .add .i64 (.li 2) (.ai 9 0 (.ci (.at 1 7) (.ci (.li 3) .n0))))
def jse0_169 : E := (.ic .eql jse0_168 (.li 2))
def jse0_170 : E := (.ic .eql jse0_168 (.li 3))
def jsN0 : Nms := [(65956882, 100, (.fb .sub jse0_3 jse0_3)),
  (787335676, 101, (.fb .add jse0_3 jse0_3)),
  (803517821, 102, (.fb .add jse0_5 jse0_7)),
  (82139027, 103, (.fb .sub jse0_5 jse0_7)),
  (3655727524, 104, (.fb .mul jse0_5 jse0_7)),
  (67876724, 105, (.fb .add (.fb .mul jse0_8 jse0_7) (.fb .mul jse0_5 jse0_9))),
  (2985624353, 106, (.fb .sub jse0_19 jse0_19)),
  (1466948024, 107, (.fb .sub jse0_21 jse0_21)),
  (3707003147, 108, (.fb .add jse0_19 jse0_19)),
  (2188326818, 109, (.fb .add jse0_21 jse0_21)),
  (749625271, 110, (.fb .add jse0_25 jse0_29)),
  (3525916233, 111, (.fb .add jse0_30 jse0_31)),
  (28246477, 112, (.fb .sub jse0_25 jse0_29)),
  (2804537439, 113, (.fb .sub jse0_30 jse0_31)),
  (3601834974, 114, (.fb .mul jse0_25 jse0_29)),
  (3511458708, 115, (.fb .mul jse0_30 jse0_29)),
  (2173534911, 116, (.fb .mul jse0_25 jse0_31)),
  (3836086339, 117, (.tf jse0_33 jse0_2 (.tf jse0_34 jse0_18 jse0_39))),
  (4204939015, 118, (.tf jse0_33 (.lf 0) (.tf jse0_34 jse0_20 jse0_40))),
  (1609182295, 119, (.tf jse0_42 jse0_1 (.tf jse0_43 jse0_2 (.tf jse0_44 jse0_18 jse0_39)))),
  (240930868, 120, (.tf jse0_46 jse0_1 (.tf jse0_47 jse0_2 (.tf jse0_48 jse0_18 jse0_39)))),
  (2926693614, 121, (.tf jse0_42 (.lf 4607182418800017408) (.tf jse0_43 (.lf 0) (.tf jse0_44 jse0_20 jse0_40)))),
  (1558442187, 122, (.tf jse0_46 (.lf 4607182418800017408) (.tf jse0_47 (.lf 0) (.tf jse0_48 jse0_20 jse0_40)))),
  (1758948798, 123, (.tf jse0_50 jse0_18 (.tf jse0_51 jse0_39 jse0_56))),
  (4106834041, 124, (.tf jse0_50 jse0_20 (.tf jse0_51 jse0_40 jse0_57))),
  (797343529, 125, (.tf jse0_59 jse0_1 (.tf jse0_60 jse0_2 (.tf jse0_61 jse0_18 (.tf jse0_62 jse0_39 jse0_56))))),
  (3267975584, 126, (.tf jse0_64 jse0_1 (.tf jse0_65 jse0_2 (.tf jse0_66 jse0_18 (.tf jse0_67 jse0_39 jse0_56))))),
  (3114994793, 127, (.tf jse0_59 (.lf 4607182418800017408) (.tf jse0_60 (.lf 0) (.tf jse0_61 jse0_20 (.tf jse0_62 jse0_40 jse0_57))))),
  (1290659557, 128, (.tf jse0_64 (.lf 4607182418800017408) (.tf jse0_65 (.lf 0) (.tf jse0_66 jse0_20 (.tf jse0_67 jse0_40 jse0_57))))),
  (2326859386, 129, (.tf jse0_69 jse0_39 (.tf jse0_70 jse0_56 jse0_75))),
  (1461271532, 130, (.tf jse0_69 jse0_40 (.tf jse0_70 jse0_57 jse0_76))),
  (860384143, 131, (.tf jse0_78 jse0_1 (.tf jse0_79 jse0_2 (.tf jse0_80 jse0_18 (.tf jse0_81 jse0_39 (.tf jse0_82 jse0_56 jse0_75)))))),
  (2874932389, 132, (.tf jse0_84 jse0_1 (.tf jse0_85 jse0_2 (.tf jse0_86 jse0_18 (.tf jse0_87 jse0_39 (.tf jse0_88 jse0_56 jse0_75)))))),
  (1669126632, 133, (.tf jse0_78 (.lf 4607182418800017408) (.tf jse0_79 (.lf 0) (.tf jse0_80 jse0_20 (.tf jse0_81 jse0_40 (.tf jse0_82 jse0_57 jse0_76)))))),
  (3683674878, 134, (.tf jse0_84 (.lf 4607182418800017408) (.tf jse0_85 (.lf 0) (.tf jse0_86 jse0_20 (.tf jse0_87 jse0_40 (.tf jse0_88 jse0_57 jse0_76)))))),
  (1671274449, 135, (.tf jse0_90 jse0_56 (.tf jse0_91 jse0_75 jse0_96))),
  (2584448958, 136, (.tf jse0_90 jse0_57 (.tf jse0_91 jse0_76 jse0_97))),
  (2149832810, 137, (.tf jse0_99 jse0_1 (.tf jse0_100 jse0_2 (.tf jse0_101 jse0_18 (.tf jse0_102 jse0_39 (.tf jse0_103 jse0_56 (.tf jse0_104 jse0_75 jse0_96))))))),
  (3708297247, 138, (.tf jse0_106 jse0_1 (.tf jse0_107 jse0_2 (.tf jse0_108 jse0_18 (.tf jse0_109 jse0_39 (.tf jse0_110 jse0_56 (.tf jse0_111 jse0_75 jse0_96))))))),
  (1935482288, 139, (.tf jse0_99 (.lf 4607182418800017408) (.tf jse0_100 (.lf 0) (.tf jse0_101 jse0_20 (.tf jse0_102 jse0_40 (.tf jse0_103 jse0_57 (.tf jse0_104 jse0_76 jse0_97))))))),
  (3493946725, 140, (.tf jse0_106 (.lf 4607182418800017408) (.tf jse0_107 (.lf 0) (.tf jse0_108 jse0_20 (.tf jse0_109 jse0_40 (.tf jse0_110 jse0_57 (.tf jse0_111 jse0_76 jse0_97))))))),
  (3688587880, 141, (.tf jse0_113 jse0_75 (.tf jse0_114 jse0_96 jse0_119))),
  (3971595452, 142, (.tf jse0_113 jse0_76 (.tf jse0_114 jse0_97 jse0_120))),
  (370722239, 143, (.tf jse0_122 jse0_1 (.tf jse0_123 jse0_2 (.tf jse0_124 jse0_18 (.tf jse0_125 jse0_39 (.tf jse0_126 jse0_56 (.tf jse0_127 jse0_75 (.tf jse0_128 jse0_96 jse0_119)))))))),
  (1473102867, 144, (.tf jse0_130 jse0_1 (.tf jse0_131 jse0_2 (.tf jse0_132 jse0_18 (.tf jse0_133 jse0_39 (.tf jse0_134 jse0_56 (.tf jse0_135 jse0_75 (.tf jse0_136 jse0_96 jse0_119)))))))),
  (3914061761, 145, (.tf jse0_122 (.lf 4607182418800017408) (.tf jse0_123 (.lf 0) (.tf jse0_124 jse0_20 (.tf jse0_125 jse0_40 (.tf jse0_126 jse0_57 (.tf jse0_127 jse0_76 (.tf jse0_128 jse0_97 jse0_120)))))))),
  (721475098, 146, (.tf jse0_130 (.lf 4607182418800017408) (.tf jse0_131 (.lf 0) (.tf jse0_132 jse0_20 (.tf jse0_133 jse0_40 (.tf jse0_134 jse0_57 (.tf jse0_135 jse0_76 (.tf jse0_136 jse0_97 jse0_120)))))))),
  (1410934020, 147, (.tf jse0_138 jse0_96 (.tf jse0_139 jse0_119 jse0_144))),
  (1063774655, 148, (.tf jse0_138 jse0_97 (.tf jse0_139 jse0_120 jse0_145))),
  (4112987012, 149, (.tf jse0_147 jse0_1 (.tf jse0_148 jse0_2 (.tf jse0_149 jse0_18 (.tf jse0_150 jse0_39 (.tf jse0_151 jse0_56 (.tf jse0_152 jse0_75 (.tf jse0_153 jse0_96 (.tf jse0_154 jse0_119 jse0_144))))))))),
  (464316540, 150, (.tf jse0_156 jse0_1 (.tf jse0_157 jse0_2 (.tf jse0_158 jse0_18 (.tf jse0_159 jse0_39 (.tf jse0_160 jse0_56 (.tf jse0_161 jse0_75 (.tf jse0_162 jse0_96 (.tf jse0_163 jse0_119 jse0_144))))))))),
  (3309897760, 151, (.tf jse0_147 (.lf 4607182418800017408) (.tf jse0_148 (.lf 0) (.tf jse0_149 jse0_20 (.tf jse0_150 jse0_40 (.tf jse0_151 jse0_57 (.tf jse0_152 jse0_76 (.tf jse0_153 jse0_97 (.tf jse0_154 jse0_120 jse0_145))))))))),
  (3956194579, 152, (.tf jse0_156 (.lf 4607182418800017408) (.tf jse0_157 (.lf 0) (.tf jse0_158 jse0_20 (.tf jse0_159 jse0_40 (.tf jse0_160 jse0_57 (.tf jse0_161 jse0_76 (.tf jse0_162 jse0_97 (.tf jse0_163 jse0_120 jse0_145))))))))),
  (3428247451, 153, (.tf jse0_165 jse0_119 (.tf jse0_166 jse0_144 (.tf jse0_167 (.i2f (.f2i (.fb .quo (.i2f (.ib .sub .i64 (.ai 9 0 (.ci (.ib .quo .i64 (.at 1 7) (.li 11)) (.ci (.li 33) .n0))) (.li 16))) (.lf 4620693217682128896)))) (.tf jse0_169 (.fb .add (.vf 149) (.vf 150)) (.tf jse0_170 (.fb .sub (.vf 149) (.vf 150)) (.fb .mul (.vf 149) (.vf 150)))))))),
  (2450921149, 154, (.tf jse0_165 jse0_120 (.tf jse0_166 jse0_145 (.tf jse0_167 (.lf 0) (.tf jse0_169 (.fb .add (.vf 151) (.vf 152)) (.tf jse0_170 (.fb .sub (.vf 151) (.vf 152)) (.fb .add (.fb .mul (.vf 151) (.vf 150)) (.fb .mul (.vf 149) (.vf 152)))))))))]
set_option maxRecDepth 1000000 in
set_option maxHeartbeats 100000000 in
theorem jsG0 : tabGood 100 jsN0 = true := by kernel_rfl
end Go.Proofs.Ytkaliagakdecaaa
