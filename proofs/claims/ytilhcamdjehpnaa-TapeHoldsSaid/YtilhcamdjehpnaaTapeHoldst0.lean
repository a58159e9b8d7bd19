/-
  'TapeHolds': what names stand for, where the first rest is 0.
-/
import Derived.Test.YtilhcamdjehpnaaM3s
namespace Go.Proofs.Ytilhcamdjehpnaa
open Go.RowKit Ex
def xe0_0 : E := (.ib .add .i64 (.li 2) (.ai 9 0 (.ci (.at 1 0) (.ci (.li 3) .n0))))
def xe0_1 : E := (.ic .eql xe0_0 (.li 3))
def xe0_2 : E := (.ic .eql (.ai 9 0 (.ci (.at 1 0) (.ci (.li 11) .n0))) (.li 0))
def xe0_3 : E := (.ic .eql (.ti xe0_2 (.li 0) (.ai 9 0 (.ci (.ib .quo .i64 (.at 1 0) (.li 4)) (.ci (.li 2) .n0)))) (.li 0))
def xe0_4 : E := (.i2f (.ib .sub .i64 (.ai 9 0 (.ci (.ti (.ic .lss (.li 0) (.vl 2)) (.at 2 0) (.li 0)) (.ci (.li 7) .n0))) (.li 3)))
def xe0_5 : E := (.ib .sub .i64 (.ai 9 0 (.ci (.vi 0) (.ci (.li 17) .n0))) (.li 8))
def xe0_6 : E := (.fb .quo (.i2f (.ib .sub .i64 xe0_5 (.ai 9 0 (.ci xe0_5 (.ci (.li 4) .n0))))) (.lf 4616189618054758400))
def xe0_7 : E := (.tf xe0_3 xe0_4 xe0_6)
def xe0_8 : E := (.ic .eql (.ti xe0_2 (.li 0) (.ai 9 0 (.ci (.ib .quo .i64 (.at 1 0) (.li 40)) (.ci (.li 2) .n0)))) (.li 0))
def xe0_9 : E := (.tf xe0_8 xe0_4 xe0_6)
def xe0_10 : E := (.ic .eql xe0_0 (.li 2))
def xe0_11 : E := (.ib .sub .i64 (.ai 9 0 (.ci (.ib .quo .i64 (.at 1 0) (.li 11)) (.ci (.li 33) .n0))) (.li 16))
def xe0_12 : E := (.tf xe0_2 (.fb .quo (.i2f (.ib .sub .i64 xe0_11 (.ai 9 0 (.ci xe0_11 (.ci (.li 8) .n0))))) (.lf 4620693217682128896)) (.lf 0))
def xe0_13 : E := (.tf xe0_2 (.fb .quo (.i2f xe0_11) (.lf 4620693217682128896)) (.lf 0))
def xe0_14 : E := (.tf xe0_2 xe0_12 xe0_13)
def xe0_15 : E := (.ai 9 0 (.ci (.ib .add .i64 (.ib .quo .i64 (.vi 0) (.li 3)) (.li 0)) (.ci (.li 3) .n0)))
def xe0_16 : E := (.ib .sub .i64 (.li 2) xe0_15)
def xe0_17 : E := (.ic .eql xe0_16 (.li 0))
def xe0_18 : E := (.ic .eql xe0_16 (.li 1))
def xe0_19 : E := (.ti (.ic .lss (.li 0) (.vl 3)) (.at 3 0) (.li 0))
def xe0_20 : E := (.fb .sub xe0_4 (.i2f (.ai 9 0 (.ci xe0_19 (.ci (.li 4) .n0)))))
def xe0_21 : E := (.fb .add xe0_4 (.i2f (.ai 9 0 (.ci (.ib .quo .i64 xe0_19 (.li 4)) (.ci (.li 4) .n0)))))
def xe0_22 : E := (.ic .eql (.ai 9 0 (.ci (.at 1 1) (.ci (.li 11) .n0))) (.li 0))
def xe0_23 : E := (.ti xe0_22 (.li 0) (.ai 9 0 (.ci (.ib .quo .i64 (.at 1 1) (.li 4)) (.ci (.li 3) .n0))))
def xe0_24 : E := (.ic .eql xe0_23 (.li 0))
def xe0_25 : E := (.ic .eql xe0_23 (.li 1))
def xe0_26 : E := (.ti xe0_22 (.li 0) (.ai 9 0 (.ci (.ib .quo .i64 (.at 1 1) (.li 40)) (.ci (.li 3) .n0))))
def xe0_27 : E := (.ic .eql xe0_26 (.li 0))
def xe0_28 : E := (.ic .eql xe0_26 (.li 1))
def xe0_29 : E := (.ib .add .i64 (.li 2) (.ai 9 0 (.ci (.at 1 1) (.ci (.li 3) .n0))))
def xe0_30 : E := (.ic .eql xe0_29 (.li 3))
def xe0_31 : E := (.ic .eql xe0_29 (.li 2))
def xe0_32 : E := (.ib .sub .i64 (.ai 9 0 (.ci (.ib .quo .i64 (.at 1 1) (.li 11)) (.ci (.li 33) .n0))) (.li 16))
def xe0_33 : E := (.tf xe0_22 (.fb .quo (.i2f (.ib .sub .i64 xe0_32 (.ai 9 0 (.ci xe0_32 (.ci (.li 8) .n0))))) (.lf 4620693217682128896)) (.lf 0))
def xe0_34 : E := (.tf xe0_22 (.fb .quo (.i2f xe0_32) (.lf 4620693217682128896)) (.lf 0))
def xe0_35 : E := (.tf xe0_22 xe0_33 xe0_34)
def xe0_36 : E := (.ib .sub .i64 (.ib .sub .i64 (.li 3) xe0_15) (.li 1))
def xe0_37 : E := (.ic .eql xe0_36 (.li 0))
def xe0_38 : E := (.ic .eql xe0_36 (.li 1))
def xe0_39 : E := (.ic .eql (.ai 9 0 (.ci (.at 1 2) (.ci (.li 11) .n0))) (.li 0))
def xe0_40 : E := (.ti xe0_39 (.li 0) (.ai 9 0 (.ci (.ib .quo .i64 (.at 1 2) (.li 4)) (.ci (.li 4) .n0))))
def xe0_41 : E := (.ic .eql xe0_40 (.li 0))
def xe0_42 : E := (.ic .eql xe0_40 (.li 1))
def xe0_43 : E := (.ic .eql xe0_40 (.li 2))
def xe0_44 : E := (.ti xe0_39 (.li 0) (.ai 9 0 (.ci (.ib .quo .i64 (.at 1 2) (.li 40)) (.ci (.li 4) .n0))))
def xe0_45 : E := (.ic .eql xe0_44 (.li 0))
def xe0_46 : E := (.ic .eql xe0_44 (.li 1))
def xe0_47 : E := (.ic .eql xe0_44 (.li 2))
def xe0_48 : E := (.ib .add .i64 (.li 2) (.ai 9 0 (.ci (.at 1 2) (.ci (.li 3) .n0))))
def xe0_49 : E := (.ic .eql xe0_48 (.li 3))
def xe0_50 : E := (.ic .eql xe0_48 (.li 2))
def xe0_51 : E := (.ib .sub .i64 (.ai 9 0 (.ci (.ib .quo .i64 (.at 1 2) (.li 11)) (.ci (.li 33) .n0))) (.li 16))
def xe0_52 : E := (.tf xe0_39 (.fb .quo (.i2f (.ib .sub .i64 xe0_51 (.ai 9 0 (.ci xe0_51 (.ci (.li 8) .n0))))) (.lf 4620693217682128896)) (.lf 0))
def xe0_53 : E := (.tf xe0_39 (.fb .quo (.i2f xe0_51) (.lf 4620693217682128896)) (.lf 0))
def xe0_54 : E := (.tf xe0_39 xe0_52 xe0_53)
def xe0_55 : E := (.ib .sub .i64 (.ib .sub .i64 (.li 4) xe0_15) (.li 2))
def xe0_56 : E := (.ic .eql xe0_55 (.li 0))
def xe0_57 : E := (.ic .eql xe0_55 (.li 1))
def xe0_58 : E := (.ic .eql (.ai 9 0 (.ci (.at 1 3) (.ci (.li 11) .n0))) (.li 0))
def xe0_59 : E := (.ib .sub .i64 (.ai 9 0 (.ci (.ib .quo .i64 (.at 1 3) (.li 11)) (.ci (.li 33) .n0))) (.li 16))
def xe0_60 : E := (.tf xe0_58 (.fb .quo (.i2f (.ib .sub .i64 xe0_59 (.ai 9 0 (.ci xe0_59 (.ci (.li 8) .n0))))) (.lf 4620693217682128896)) (.lf 0))
def xe0_61 : E := (.ti xe0_58 (.li 0) (.ai 9 0 (.ci (.ib .quo .i64 (.at 1 3) (.li 4)) (.ci (.li 5) .n0))))
def xe0_62 : E := (.ic .eql xe0_61 (.li 0))
def xe0_63 : E := (.ic .eql xe0_61 (.li 1))
def xe0_64 : E := (.ic .eql xe0_61 (.li 2))
def xe0_65 : E := (.ic .eql xe0_61 (.li 3))
def xe0_66 : E := (.ti xe0_58 (.li 0) (.ai 9 0 (.ci (.ib .quo .i64 (.at 1 3) (.li 40)) (.ci (.li 5) .n0))))
def xe0_67 : E := (.ic .eql xe0_66 (.li 0))
def xe0_68 : E := (.ic .eql xe0_66 (.li 1))
def xe0_69 : E := (.ic .eql xe0_66 (.li 2))
def xe0_70 : E := (.ic .eql xe0_66 (.li 3))
def xe0_71 : E := (.ib .add .i64 (.li 2) (.ai 9 0 (.ci (.at 1 3) (.ci (.li 3) .n0))))
def xe0_72 : E := (.ic .eql xe0_71 (.li 3))
def xe0_73 : E := (.ic .eql xe0_71 (.li 2))
def xe0_74 : E := (.tf xe0_58 (.fb .quo (.i2f xe0_59) (.lf 4620693217682128896)) (.lf 0))
def xe0_75 : E := (.tf xe0_58 xe0_60 xe0_74)
def xe0_76 : E := (.ib .sub .i64 (.ib .sub .i64 (.li 5) xe0_15) (.li 3))
def xe0_77 : E := (.ic .eql xe0_76 (.li 0))
def xe0_78 : E := (.ic .eql xe0_76 (.li 1))
def xe0_79 : E := (.ic .eql (.ai 9 0 (.ci (.at 1 4) (.ci (.li 11) .n0))) (.li 0))
def xe0_80 : E := (.ib .sub .i64 (.ai 9 0 (.ci (.ib .quo .i64 (.at 1 4) (.li 11)) (.ci (.li 33) .n0))) (.li 16))
def xe0_81 : E := (.tf xe0_79 (.fb .quo (.i2f (.ib .sub .i64 xe0_80 (.ai 9 0 (.ci xe0_80 (.ci (.li 8) .n0))))) (.lf 4620693217682128896)) (.lf 0))
def xe0_82 : E := (.ti xe0_79 (.li 0) (.ai 9 0 (.ci (.ib .quo .i64 (.at 1 4) (.li 4)) (.ci (.li 6) .n0))))
def xe0_83 : E := (.ic .eql xe0_82 (.li 0))
def xe0_84 : E := (.ic .eql xe0_82 (.li 1))
def xe0_85 : E := (.ic .eql xe0_82 (.li 2))
def xe0_86 : E := (.ic .eql xe0_82 (.li 3))
def xe0_87 : E := (.ic .eql xe0_82 (.li 4))
def xe0_88 : E := (.ti xe0_79 (.li 0) (.ai 9 0 (.ci (.ib .quo .i64 (.at 1 4) (.li 40)) (.ci (.li 6) .n0))))
def xe0_89 : E := (.ic .eql xe0_88 (.li 0))
def xe0_90 : E := (.ic .eql xe0_88 (.li 1))
def xe0_91 : E := (.ic .eql xe0_88 (.li 2))
def xe0_92 : E := (.ic .eql xe0_88 (.li 3))
def xe0_93 : E := (.ic .eql xe0_88 (.li 4))
def xe0_94 : E := (.ib .add .i64 (.li 2) (.ai 9 0 (.ci (.at 1 4) (.ci (.li 3) .n0))))
def xe0_95 : E := (.ic .eql xe0_94 (.li 3))
def xe0_96 : E := (.ic .eql xe0_94 (.li 2))
def xe0_97 : E := (.tf xe0_79 (.fb .quo (.i2f xe0_80) (.lf 4620693217682128896)) (.lf 0))
def xe0_98 : E := (.tf xe0_79 xe0_81 xe0_97)
def xe0_99 : E := (.ib .sub .i64 (.ib .sub .i64 (.li 6) xe0_15) (.li 4))
def xe0_100 : E := (.ic .eql xe0_99 (.li 0))
def xe0_101 : E := (.ic .eql xe0_99 (.li 1))
def xe0_102 : E := (.ic .eql (.ai 9 0 (.ci (.at 1 5) (.ci (.li 11) .n0))) (.li 0))
def xe0_103 : E := (.ib .sub .i64 (.ai 9 0 (.ci (.ib .quo .i64 (.at 1 5) (.li 11)) (.ci (.li 33) .n0))) (.li 16))
def xe0_104 : E := (.tf xe0_102 (.fb .quo (.i2f xe0_103) (.lf 4620693217682128896)) (.lf 0))
def xe0_105 : E := (.tf xe0_102 (.fb .quo (.i2f (.ib .sub .i64 xe0_103 (.ai 9 0 (.ci xe0_103 (.ci (.li 8) .n0))))) (.lf 4620693217682128896)) (.lf 0))
def xe0_106 : E := (.ti xe0_102 (.li 0) (.ai 9 0 (.ci (.ib .quo .i64 (.at 1 5) (.li 4)) (.ci (.li 7) .n0))))
def xe0_107 : E := (.ic .eql xe0_106 (.li 0))
def xe0_108 : E := (.ic .eql xe0_106 (.li 1))
def xe0_109 : E := (.ic .eql xe0_106 (.li 2))
def xe0_110 : E := (.ic .eql xe0_106 (.li 3))
def xe0_111 : E := (.ic .eql xe0_106 (.li 4))
def xe0_112 : E := (.ic .eql xe0_106 (.li 5))
def xe0_113 : E := (.ti xe0_102 (.li 0) (.ai 9 0 (.ci (.ib .quo .i64 (.at 1 5) (.li 40)) (.ci (.li 7) .n0))))
def xe0_114 : E := (.ic .eql xe0_113 (.li 0))
def xe0_115 : E := (.ic .eql xe0_113 (.li 1))
def xe0_116 : E := (.ic .eql xe0_113 (.li 2))
def xe0_117 : E := (.ic .eql xe0_113 (.li 3))
def xe0_118 : E := (.ic .eql xe0_113 (.li 4))
def xe0_119 : E := (.ic .eql xe0_113 (.li 5))
def xe0_120 : E := (.ib .add .i64 (.li 2) (.ai 9 0 (.ci (.at 1 5) (.ci (.li 3) .n0))))
def xe0_121 : E := (.ic .eql xe0_120 (.li 3))
def xe0_122 : E := (.ic .eql xe0_120 (.li 2))
def xe0_123 : E := (.tf xe0_102 xe0_105 xe0_104)
def xe0_124 : E := (.ib .sub .i64 (.ib .sub .i64 (.li 7) xe0_15) (.li 5))
def xe0_125 : E := (.ic .eql xe0_124 (.li 0))
def xe0_126 : E := (.ic .eql xe0_124 (.li 1))
def xe0_127 : E := (.ic .eql (.ai 9 0 (.ci (.at 1 6) (.ci (.li 11) .n0))) (.li 0))
def xe0_128 : E := (.ib .sub .i64 (.ai 9 0 (.ci (.ib .quo .i64 (.at 1 6) (.li 11)) (.ci (.li 33) .n0))) (.li 16))
def xe0_129 : E := (.tf xe0_127 (.fb .quo (.i2f xe0_128) (.lf 4620693217682128896)) (.lf 0))
def xe0_130 : E := (.tf xe0_127 (.fb .quo (.i2f (.ib .sub .i64 xe0_128 (.ai 9 0 (.ci xe0_128 (.ci (.li 8) .n0))))) (.lf 4620693217682128896)) (.lf 0))
def xe0_131 : E := (.ti xe0_127 (.li 0) (.ai 9 0 (.ci (.ib .quo .i64 (.at 1 6) (.li 4)) (.ci (.li 8) .n0))))
def xe0_132 : E := (.ic .eql xe0_131 (.li 0))
def xe0_133 : E := (.ic .eql xe0_131 (.li 1))
def xe0_134 : E := (.ic .eql xe0_131 (.li 2))
def xe0_135 : E := (.ic .eql xe0_131 (.li 3))
def xe0_136 : E := (.ic .eql xe0_131 (.li 4))
def xe0_137 : E := (.ic .eql xe0_131 (.li 5))
def xe0_138 : E := (.ic .eql xe0_131 (.li 6))
def xe0_139 : E := (.ti xe0_127 (.li 0) (.ai 9 0 (.ci (.ib .quo .i64 (.at 1 6) (.li 40)) (.ci (.li 8) .n0))))
def xe0_140 : E := (.ic .eql xe0_139 (.li 0))
def xe0_141 : E := (.ic .eql xe0_139 (.li 1))
def xe0_142 : E := (.ic .eql xe0_139 (.li 2))
def xe0_143 : E := (.ic .eql xe0_139 (.li 3))
def xe0_144 : E := (.ic .eql xe0_139 (.li 4))
def xe0_145 : E := (.ic .eql xe0_139 (.li 5))
def xe0_146 : E := (.ic .eql xe0_139 (.li 6))
def xe0_147 : E := (.ib .add .i64 (.li 2) (.ai 9 0 (.ci (.at 1 6) (.ci (.li 3) .n0))))
def xe0_148 : E := (.ic .eql xe0_147 (.li 3))
def xe0_149 : E := (.ic .eql xe0_147 (.li 2))
def xe0_150 : E := (.tf xe0_127 xe0_130 xe0_129)
def xe0_151 : E := (.ib .sub .i64 (.ib .sub .i64 (.li 8) xe0_15) (.li 6))
def xe0_152 : E := (.ic .eql xe0_151 (.li 0))
def xe0_153 : E := (.ic .eql xe0_151 (.li 1))
def xe0_154 : E := (.ic .eql (.ai 9 0 (.ci (.at 1 7) (.ci (.li 11) .n0))) (.li 0))
def xe0_155 : E := (.ib .sub .i64 (.ai 9 0 (.ci (.ib .quo .i64 (.at 1 7) (.li 11)) (.ci (.li 33) .n0))) (.li 16))
def xe0_156 : E := (.tf xe0_154 (.fb .quo (.i2f xe0_155) (.lf 4620693217682128896)) (.lf 0))
def xe0_157 : E := (.tf xe0_154 (.fb .quo (.i2f (.ib .sub .i64 xe0_155 (.ai 9 0 (.ci xe0_155 (.ci (.li 8) .n0))))) (.lf 4620693217682128896)) (.lf 0))
def xe0_158 : E := (.ti xe0_154 (.li 0) (.ai 9 0 (.ci (.ib .quo .i64 (.at 1 7) (.li 4)) (.ci (.li 9) .n0))))
def xe0_159 : E := (.ic .eql xe0_158 (.li 0))
def xe0_160 : E := (.ic .eql xe0_158 (.li 1))
def xe0_161 : E := (.ic .eql xe0_158 (.li 2))
def xe0_162 : E := (.ic .eql xe0_158 (.li 3))
def xe0_163 : E := (.ic .eql xe0_158 (.li 4))
def xe0_164 : E := (.ic .eql xe0_158 (.li 5))
def xe0_165 : E := (.ic .eql xe0_158 (.li 6))
def xe0_166 : E := (.ic .eql xe0_158 (.li 7))
def xe0_167 : E := (.ti xe0_154 (.li 0) (.ai 9 0 (.ci (.ib .quo .i64 (.at 1 7) (.li 40)) (.ci (.li 9) .n0))))
def xe0_168 : E := (.ic .eql xe0_167 (.li 0))
def xe0_169 : E := (.ic .eql xe0_167 (.li 1))
def xe0_170 : E := (.ic .eql xe0_167 (.li 2))
def xe0_171 : E := (.ic .eql xe0_167 (.li 3))
def xe0_172 : E := (.ic .eql xe0_167 (.li 4))
def xe0_173 : E := (.ic .eql xe0_167 (.li 5))
def xe0_174 : E := (.ic .eql xe0_167 (.li 6))
def xe0_175 : E := (.ic .eql xe0_167 (.li 7))
def xe0_176 : E := (.ib .add .i64 (.li 2) (.ai 9 0 (.ci (.at 1 7) (.ci (.li 3) .n0))))
def xe0_177 : E := (.ic .eql xe0_176 (.li 3))
def xe0_178 : E := (.ic .eql xe0_176 (.li 2))
def xe0_179 : E := (.tf xe0_154 xe0_157 xe0_156)
def xe0_180 : E := (.ib .sub .i64 (.ib .sub .i64 (.li 9) xe0_15) (.li 7))
def xe0_181 : E := (.ic .eql xe0_180 (.li 0))
def xe0_182 : E := (.ic .eql xe0_180 (.li 1))
def xN0 : Nms := [(489694679, 100, (.tf xe0_1 (.fb .sub xe0_7 xe0_9) (.fb .mul xe0_7 xe0_9))),
  (2191480199, 101, (.tf xe0_10 (.fb .add xe0_7 xe0_9) (.vf 100))),
  (442403299, 102, (.tf xe0_2 xe0_14 (.vf 101))),
  (855705377, 103, (.tf xe0_17 xe0_4 (.tf xe0_18 xe0_6 (.vf 102)))),
  (421553287, 104, (.af 20 0 (.cf (.tf xe0_3 xe0_20 xe0_6) (.cf (.tf xe0_3 xe0_21 xe0_6) (.cf (.tf xe0_8 xe0_20 xe0_6) (.cf (.tf xe0_8 xe0_21 xe0_6) .n0)))))),
  (422553290, 105, (.af 20 1 (.cf (.tf xe0_3 xe0_20 xe0_6) (.cf (.tf xe0_3 xe0_21 xe0_6) (.cf (.tf xe0_8 xe0_20 xe0_6) (.cf (.tf xe0_8 xe0_21 xe0_6) .n0)))))),
  (3995141784, 106, (.af 21 0 (.cf (.tf xe0_3 xe0_20 xe0_6) (.cf (.tf xe0_3 xe0_21 xe0_6) (.cf (.tf xe0_8 xe0_20 xe0_6) (.cf (.tf xe0_8 xe0_21 xe0_6) .n0)))))),
  (3996141787, 107, (.af 21 1 (.cf (.tf xe0_3 xe0_20 xe0_6) (.cf (.tf xe0_3 xe0_21 xe0_6) (.cf (.tf xe0_8 xe0_20 xe0_6) (.cf (.tf xe0_8 xe0_21 xe0_6) .n0)))))),
  (3273762990, 108, (.af 22 0 (.cf (.tf xe0_3 xe0_20 xe0_6) (.cf (.tf xe0_3 xe0_21 xe0_6) (.cf (.tf xe0_8 xe0_20 xe0_6) (.cf (.tf xe0_8 xe0_21 xe0_6) .n0)))))),
  (3274762993, 109, (.af 22 1 (.cf (.tf xe0_3 xe0_20 xe0_6) (.cf (.tf xe0_3 xe0_21 xe0_6) (.cf (.tf xe0_8 xe0_20 xe0_6) (.cf (.tf xe0_8 xe0_21 xe0_6) .n0)))))),
  (4133447244, 110, (.tf xe0_1 (.vf 107) (.vf 109))),
  (4132447240, 111, (.tf xe0_1 (.vf 106) (.vf 108))),
  (1279237536, 112, (.tf xe0_10 (.vf 105) (.vf 110))),
  (1278237534, 113, (.tf xe0_10 (.vf 104) (.vf 111))),
  (442403310, 114, (.tf xe0_2 xe0_14 (.vf 112))),
  (442403311, 115, (.tf xe0_2 xe0_14 (.vf 113))),
  (2086199191, 116, (.tf xe0_17 xe0_20 (.tf xe0_18 xe0_6 (.vf 115)))),
  (1564366316, 117, (.tf xe0_17 xe0_21 (.tf xe0_18 xe0_6 (.vf 114)))),
  (2172448629, 118, (.tf xe0_24 xe0_4 (.tf xe0_25 xe0_6 (.vf 102)))),
  (1260281011, 119, (.tf xe0_27 xe0_4 (.tf xe0_28 xe0_6 (.vf 102)))),
  (1221012676, 120, (.tf xe0_30 (.fb .sub (.vf 118) (.vf 119)) (.fb .mul (.vf 118) (.vf 119)))),
  (276163977, 121, (.tf xe0_31 (.fb .add (.vf 118) (.vf 119)) (.vf 120))),
  (1066989568, 122, (.tf xe0_22 xe0_35 (.vf 121))),
  (1948239840, 123, (.tf xe0_37 xe0_6 (.tf xe0_38 (.vf 102) (.vf 122)))),
  (3402942443, 124, (.tf xe0_24 xe0_20 (.tf xe0_25 xe0_6 (.vf 115)))),
  (2881109568, 125, (.tf xe0_24 xe0_21 (.tf xe0_25 xe0_6 (.vf 114)))),
  (2490774825, 126, (.tf xe0_27 xe0_20 (.tf xe0_28 xe0_6 (.vf 115)))),
  (1968941950, 127, (.tf xe0_27 xe0_21 (.tf xe0_28 xe0_6 (.vf 114)))),
  (723078902, 128, (.af 20 0 (.cf (.vf 124) (.cf (.vf 125) (.cf (.vf 126) (.cf (.vf 127) .n0)))))),
  (724078905, 129, (.af 20 1 (.cf (.vf 124) (.cf (.vf 125) (.cf (.vf 126) (.cf (.vf 127) .n0)))))),
  (1700108, 130, (.af 21 0 (.cf (.vf 124) (.cf (.vf 125) (.cf (.vf 126) (.cf (.vf 127) .n0)))))),
  (2700111, 131, (.af 21 1 (.cf (.vf 124) (.cf (.vf 125) (.cf (.vf 126) (.cf (.vf 127) .n0)))))),
  (3575288605, 132, (.af 22 0 (.cf (.vf 124) (.cf (.vf 125) (.cf (.vf 126) (.cf (.vf 127) .n0)))))),
  (3576288608, 133, (.af 22 1 (.cf (.vf 124) (.cf (.vf 125) (.cf (.vf 126) (.cf (.vf 127) .n0)))))),
  (512321110, 134, (.tf xe0_30 (.vf 131) (.vf 133))),
  (511321106, 135, (.tf xe0_30 (.vf 130) (.vf 132))),
  (1953078693, 136, (.tf xe0_31 (.vf 129) (.vf 134))),
  (1952078691, 137, (.tf xe0_31 (.vf 128) (.vf 135))),
  (1066989583, 138, (.tf xe0_22 xe0_35 (.vf 136))),
  (1066989584, 139, (.tf xe0_22 xe0_35 (.vf 137))),
  (1961239896, 140, (.tf xe0_37 xe0_6 (.tf xe0_38 (.vf 115) (.vf 139)))),
  (1960239892, 141, (.tf xe0_37 xe0_6 (.tf xe0_38 (.vf 114) (.vf 138)))),
  (1769505614, 142, (.tf xe0_41 xe0_4 (.tf xe0_42 xe0_6 (.tf xe0_43 (.vf 102) (.vf 122))))),
  (401254187, 143, (.tf xe0_45 xe0_4 (.tf xe0_46 xe0_6 (.tf xe0_47 (.vf 102) (.vf 122))))),
  (1785632013, 144, (.tf xe0_49 (.fb .sub (.vf 142) (.vf 143)) (.fb .mul (.vf 142) (.vf 143)))),
  (816783242, 145, (.tf xe0_50 (.fb .add (.vf 142) (.vf 143)) (.vf 144))),
  (1691575841, 146, (.tf xe0_39 xe0_54 (.vf 145))),
  (4146100030, 147, (.tf xe0_56 (.vf 102) (.tf xe0_57 (.vf 122) (.vf 146)))),
  (3012999471, 148, (.tf xe0_41 xe0_20 (.tf xe0_42 xe0_6 (.tf xe0_43 (.vf 115) (.vf 139))))),
  (2490166593, 149, (.tf xe0_41 xe0_21 (.tf xe0_42 xe0_6 (.tf xe0_43 (.vf 114) (.vf 138))))),
  (1644748044, 150, (.tf xe0_45 xe0_20 (.tf xe0_46 xe0_6 (.tf xe0_47 (.vf 115) (.vf 139))))),
  (1121915166, 151, (.tf xe0_45 xe0_21 (.tf xe0_46 xe0_6 (.tf xe0_47 (.vf 114) (.vf 138))))),
  (819079190, 152, (.af 20 0 (.cf (.vf 148) (.cf (.vf 149) (.cf (.vf 150) (.cf (.vf 151) .n0)))))),
  (820079193, 153, (.af 20 1 (.cf (.vf 148) (.cf (.vf 149) (.cf (.vf 150) (.cf (.vf 151) .n0)))))),
  (97700396, 154, (.af 21 0 (.cf (.vf 148) (.cf (.vf 149) (.cf (.vf 150) (.cf (.vf 151) .n0)))))),
  (98700399, 155, (.af 21 1 (.cf (.vf 148) (.cf (.vf 149) (.cf (.vf 150) (.cf (.vf 151) .n0)))))),
  (3671288893, 156, (.af 22 0 (.cf (.vf 148) (.cf (.vf 149) (.cf (.vf 150) (.cf (.vf 151) .n0)))))),
  (3672288896, 157, (.af 22 1 (.cf (.vf 148) (.cf (.vf 149) (.cf (.vf 150) (.cf (.vf 151) .n0)))))),
  (1186162267, 158, (.tf xe0_49 (.vf 155) (.vf 157))),
  (1185162263, 159, (.tf xe0_49 (.vf 154) (.vf 156))),
  (2626919850, 160, (.tf xe0_50 (.vf 153) (.vf 158))),
  (2625919848, 161, (.tf xe0_50 (.vf 152) (.vf 159))),
  (1691575856, 162, (.tf xe0_39 xe0_54 (.vf 160))),
  (1691575857, 163, (.tf xe0_39 xe0_54 (.vf 161))),
  (4176100137, 164, (.tf xe0_56 (.vf 115) (.tf xe0_57 (.vf 139) (.vf 163)))),
  (4174100130, 165, (.tf xe0_56 (.vf 114) (.tf xe0_57 (.vf 138) (.vf 162)))),
  (2747891526, 166, (.tf xe0_58 xe0_60 (.tf xe0_39 xe0_52 (.tf xe0_22 xe0_33 (.tf xe0_2 xe0_12 xe0_6))))),
  (3229675952, 167, (.tf xe0_62 xe0_4 (.tf xe0_63 xe0_6 (.tf xe0_64 (.vf 102) (.tf xe0_65 (.vf 122) (.vf 146)))))),
  (1405340716, 168, (.tf xe0_67 xe0_4 (.tf xe0_68 xe0_6 (.tf xe0_69 (.vf 102) (.tf xe0_70 (.vf 122) (.vf 146)))))),
  (1630872563, 169, (.tf xe0_72 (.fb .sub (.vf 167) (.vf 168)) (.fb .mul (.vf 167) (.vf 168)))),
  (637023717, 170, (.tf xe0_73 (.fb .add (.vf 167) (.vf 168)) (.vf 169))),
  (2316162115, 171, (.tf xe0_58 xe0_75 (.vf 170))),
  (300442975, 172, (.tf xe0_77 (.vf 122) (.tf xe0_78 (.vf 146) (.vf 171)))),
  (195202569, 173, (.tf xe0_62 xe0_20 (.tf xe0_63 xe0_6 (.tf xe0_64 (.vf 115) (.tf xe0_65 (.vf 139) (.vf 163)))))),
  (3966336979, 174, (.tf xe0_62 xe0_21 (.tf xe0_63 xe0_6 (.tf xe0_64 (.vf 114) (.tf xe0_65 (.vf 138) (.vf 162)))))),
  (2665834624, 175, (.tf xe0_67 xe0_20 (.tf xe0_68 xe0_6 (.tf xe0_69 (.vf 115) (.tf xe0_70 (.vf 139) (.vf 163)))))),
  (2142001743, 176, (.tf xe0_67 xe0_21 (.tf xe0_68 xe0_6 (.tf xe0_69 (.vf 114) (.tf xe0_70 (.vf 138) (.vf 162)))))),
  (919079490, 177, (.af 20 0 (.cf (.vf 173) (.cf (.vf 174) (.cf (.vf 175) (.cf (.vf 176) .n0)))))),
  (920079493, 178, (.af 20 1 (.cf (.vf 173) (.cf (.vf 174) (.cf (.vf 175) (.cf (.vf 176) .n0)))))),
  (197700696, 179, (.af 21 0 (.cf (.vf 173) (.cf (.vf 174) (.cf (.vf 175) (.cf (.vf 176) .n0)))))),
  (198700699, 180, (.af 21 1 (.cf (.vf 173) (.cf (.vf 174) (.cf (.vf 175) (.cf (.vf 176) .n0)))))),
  (3771289193, 181, (.af 22 0 (.cf (.vf 173) (.cf (.vf 174) (.cf (.vf 175) (.cf (.vf 176) .n0)))))),
  (3772289196, 182, (.af 22 1 (.cf (.vf 173) (.cf (.vf 174) (.cf (.vf 175) (.cf (.vf 176) .n0)))))),
  (1861003428, 183, (.tf xe0_72 (.vf 180) (.vf 182))),
  (1860003424, 184, (.tf xe0_72 (.vf 179) (.vf 181))),
  (3301761011, 185, (.tf xe0_73 (.vf 178) (.vf 183))),
  (3300761009, 186, (.tf xe0_73 (.vf 177) (.vf 184))),
  (2316162130, 187, (.tf xe0_58 xe0_75 (.vf 185))),
  (2316162131, 188, (.tf xe0_58 xe0_75 (.vf 186))),
  (334443094, 189, (.tf xe0_77 (.vf 139) (.tf xe0_78 (.vf 163) (.vf 188)))),
  (332443087, 190, (.tf xe0_77 (.vf 138) (.tf xe0_78 (.vf 162) (.vf 187)))),
  (3839114652, 191, (.tf xe0_79 xe0_81 (.vf 166))),
  (2261992361, 192, (.tf xe0_83 xe0_4 (.tf xe0_84 xe0_6 (.tf xe0_85 (.vf 102) (.tf xe0_86 (.vf 122) (.tf xe0_87 (.vf 146) (.vf 171))))))),
  (4276540607, 193, (.tf xe0_89 xe0_4 (.tf xe0_90 xe0_6 (.tf xe0_91 (.vf 102) (.tf xe0_92 (.vf 122) (.tf xe0_93 (.vf 146) (.vf 171))))))),
  (1476113113, 194, (.tf xe0_95 (.fb .sub (.vf 192) (.vf 193)) (.fb .mul (.vf 192) (.vf 193)))),
  (457264192, 195, (.tf xe0_96 (.fb .add (.vf 192) (.vf 193)) (.vf 194))),
  (2940748389, 196, (.tf xe0_79 xe0_98 (.vf 195))),
  (754753226, 197, (.tf xe0_100 (.vf 146) (.tf xe0_101 (.vf 171) (.vf 196)))),
  (3539486320, 198, (.tf xe0_83 xe0_20 (.tf xe0_84 xe0_6 (.tf xe0_85 (.vf 115) (.tf xe0_86 (.vf 139) (.tf xe0_87 (.vf 163) (.vf 188))))))),
  (3014653436, 199, (.tf xe0_83 xe0_21 (.tf xe0_84 xe0_6 (.tf xe0_85 (.vf 114) (.tf xe0_86 (.vf 138) (.tf xe0_87 (.vf 162) (.vf 187))))))),
  (1259067275, 200, (.tf xe0_89 xe0_20 (.tf xe0_90 xe0_6 (.tf xe0_91 (.vf 115) (.tf xe0_92 (.vf 139) (.tf xe0_93 (.vf 163) (.vf 188))))))),
  (734234391, 201, (.tf xe0_89 xe0_21 (.tf xe0_90 xe0_6 (.tf xe0_91 (.vf 114) (.tf xe0_92 (.vf 138) (.tf xe0_93 (.vf 162) (.vf 187))))))),
  (1019079790, 202, (.af 20 0 (.cf (.vf 198) (.cf (.vf 199) (.cf (.vf 200) (.cf (.vf 201) .n0)))))),
  (1020079793, 203, (.af 20 1 (.cf (.vf 198) (.cf (.vf 199) (.cf (.vf 200) (.cf (.vf 201) .n0)))))),
  (297700996, 204, (.af 21 0 (.cf (.vf 198) (.cf (.vf 199) (.cf (.vf 200) (.cf (.vf 201) .n0)))))),
  (298700999, 205, (.af 21 1 (.cf (.vf 198) (.cf (.vf 199) (.cf (.vf 200) (.cf (.vf 201) .n0)))))),
  (3871289493, 206, (.af 22 0 (.cf (.vf 198) (.cf (.vf 199) (.cf (.vf 200) (.cf (.vf 201) .n0)))))),
  (3872289496, 207, (.af 22 1 (.cf (.vf 198) (.cf (.vf 199) (.cf (.vf 200) (.cf (.vf 201) .n0)))))),
  (2535844589, 208, (.tf xe0_95 (.vf 205) (.vf 207))),
  (2534844585, 209, (.tf xe0_95 (.vf 204) (.vf 206))),
  (3976602172, 210, (.tf xe0_96 (.vf 203) (.vf 208))),
  (3975602170, 211, (.tf xe0_96 (.vf 202) (.vf 209))),
  (2940748404, 212, (.tf xe0_79 xe0_98 (.vf 210))),
  (2940748405, 213, (.tf xe0_79 xe0_98 (.vf 211))),
  (788753345, 214, (.tf xe0_100 (.vf 163) (.tf xe0_101 (.vf 188) (.vf 213)))),
  (786753338, 215, (.tf xe0_100 (.vf 162) (.tf xe0_101 (.vf 187) (.vf 212)))),
  (3374117668, 216, (.tf xe0_102 xe0_104 (.tf xe0_79 xe0_97 (.tf xe0_58 xe0_74 (.tf xe0_39 xe0_53 (.tf xe0_22 xe0_34 (.tf xe0_2 xe0_13 (.fb .quo (.i2f xe0_5) (.lf 4616189618054758400))))))))),
  (3600969361, 217, (.tf xe0_102 xe0_105 (.vf 191))),
  (3162422134, 218, (.tf xe0_107 xe0_4 (.tf xe0_108 xe0_6 (.tf xe0_109 (.vf 102) (.tf xe0_110 (.vf 122) (.tf xe0_111 (.vf 146) (.tf xe0_112 (.vf 171) (.vf 196)))))))),
  (425919280, 219, (.tf xe0_114 xe0_4 (.tf xe0_115 xe0_6 (.tf xe0_116 (.vf 102) (.tf xe0_117 (.vf 122) (.tf xe0_118 (.vf 146) (.tf xe0_119 (.vf 171) (.vf 196)))))))),
  (601974876, 220, (.tf xe0_121 (.fb .sub (.vf 218) (.vf 219)) (.fb .mul (.vf 218) (.vf 219)))),
  (3852093168, 221, (.tf xe0_122 (.fb .add (.vf 218) (.vf 219)) (.vf 220))),
  (3565334664, 222, (.tf xe0_102 xe0_123 (.vf 221))),
  (1210063481, 223, (.tf xe0_125 (.vf 171) (.tf xe0_126 (.vf 196) (.vf 222)))),
  (161948853, 224, (.tf xe0_107 xe0_20 (.tf xe0_108 xe0_6 (.tf xe0_109 (.vf 115) (.tf xe0_110 (.vf 139) (.tf xe0_111 (.vf 163) (.tf xe0_112 (.vf 188) (.vf 213)))))))),
  (3931083257, 225, (.tf xe0_107 xe0_21 (.tf xe0_108 xe0_6 (.tf xe0_109 (.vf 114) (.tf xe0_110 (.vf 138) (.tf xe0_111 (.vf 162) (.tf xe0_112 (.vf 187) (.vf 212)))))))),
  (1720413290, 226, (.tf xe0_114 xe0_20 (.tf xe0_115 xe0_6 (.tf xe0_116 (.vf 115) (.tf xe0_117 (.vf 139) (.tf xe0_118 (.vf 163) (.tf xe0_119 (.vf 188) (.vf 213)))))))),
  (1194580403, 227, (.tf xe0_114 xe0_21 (.tf xe0_115 xe0_6 (.tf xe0_116 (.vf 114) (.tf xe0_117 (.vf 138) (.tf xe0_118 (.vf 162) (.tf xe0_119 (.vf 187) (.vf 212)))))))),
  (1123080102, 228, (.af 20 0 (.cf (.vf 224) (.cf (.vf 225) (.cf (.vf 226) (.cf (.vf 227) .n0)))))),
  (1124080105, 229, (.af 20 1 (.cf (.vf 224) (.cf (.vf 225) (.cf (.vf 226) (.cf (.vf 227) .n0)))))),
  (401701308, 230, (.af 21 0 (.cf (.vf 224) (.cf (.vf 225) (.cf (.vf 226) (.cf (.vf 227) .n0)))))),
  (402701311, 231, (.af 21 1 (.cf (.vf 224) (.cf (.vf 225) (.cf (.vf 226) (.cf (.vf 227) .n0)))))),
  (3975289805, 232, (.af 22 0 (.cf (.vf 224) (.cf (.vf 225) (.cf (.vf 226) (.cf (.vf 227) .n0)))))),
  (3976289808, 233, (.af 22 1 (.cf (.vf 224) (.cf (.vf 225) (.cf (.vf 226) (.cf (.vf 227) .n0)))))),
  (3211685754, 234, (.tf xe0_121 (.vf 231) (.vf 233))),
  (3210685750, 235, (.tf xe0_121 (.vf 230) (.vf 232))),
  (357476046, 236, (.tf xe0_122 (.vf 229) (.vf 234))),
  (356476044, 237, (.tf xe0_122 (.vf 228) (.vf 235))),
  (3565334679, 238, (.tf xe0_102 xe0_123 (.vf 236))),
  (3565334680, 239, (.tf xe0_102 xe0_123 (.vf 237))),
  (1244063600, 240, (.tf xe0_125 (.vf 188) (.tf xe0_126 (.vf 213) (.vf 239)))),
  (1242063593, 241, (.tf xe0_125 (.vf 187) (.tf xe0_126 (.vf 212) (.vf 238)))),
  (3639493319, 242, (.tf xe0_127 xe0_129 (.vf 216))),
  (3362824071, 243, (.tf xe0_127 xe0_130 (.vf 217))),
  (1635997981, 244, (.tf xe0_132 xe0_4 (.tf xe0_133 xe0_6 (.tf xe0_134 (.vf 102) (.tf xe0_135 (.vf 122) (.tf xe0_136 (.vf 146) (.tf xe0_137 (.vf 171) (.tf xe0_138 (.vf 196) (.vf 222))))))))),
  (2738378609, 245, (.tf xe0_140 xe0_4 (.tf xe0_141 xe0_6 (.tf xe0_142 (.vf 102) (.tf xe0_143 (.vf 122) (.tf xe0_144 (.vf 146) (.tf xe0_145 (.vf 171) (.tf xe0_146 (.vf 196) (.vf 222))))))))),
  (4022803930, 246, (.tf xe0_148 (.fb .sub (.vf 244) (.vf 245)) (.fb .mul (.vf 244) (.vf 245)))),
  (2951954853, 247, (.tf xe0_149 (.fb .add (.vf 244) (.vf 245)) (.vf 246))),
  (4189920939, 248, (.tf xe0_127 xe0_150 (.vf 247))),
  (1666373739, 249, (.tf xe0_152 (.vf 196) (.tf xe0_153 (.vf 222) (.vf 248)))),
  (2947492042, 250, (.tf xe0_132 xe0_20 (.tf xe0_133 xe0_6 (.tf xe0_134 (.vf 115) (.tf xe0_135 (.vf 139) (.tf xe0_136 (.vf 163) (.tf xe0_137 (.vf 188) (.tf xe0_138 (.vf 213) (.vf 239))))))))),
  (2420659152, 251, (.tf xe0_132 xe0_21 (.tf xe0_133 xe0_6 (.tf xe0_134 (.vf 114) (.tf xe0_135 (.vf 138) (.tf xe0_136 (.vf 162) (.tf xe0_137 (.vf 187) (.tf xe0_138 (.vf 212) (.vf 238))))))))),
  (4049872670, 252, (.tf xe0_140 xe0_20 (.tf xe0_141 xe0_6 (.tf xe0_142 (.vf 115) (.tf xe0_143 (.vf 139) (.tf xe0_144 (.vf 163) (.tf xe0_145 (.vf 188) (.tf xe0_146 (.vf 213) (.vf 239))))))))),
  (3523039780, 253, (.tf xe0_140 xe0_21 (.tf xe0_141 xe0_6 (.tf xe0_142 (.vf 114) (.tf xe0_143 (.vf 138) (.tf xe0_144 (.vf 162) (.tf xe0_145 (.vf 187) (.tf xe0_146 (.vf 212) (.vf 238))))))))),
  (1227080414, 254, (.af 20 0 (.cf (.vf 250) (.cf (.vf 251) (.cf (.vf 252) (.cf (.vf 253) .n0)))))),
  (1228080417, 255, (.af 20 1 (.cf (.vf 250) (.cf (.vf 251) (.cf (.vf 252) (.cf (.vf 253) .n0)))))),
  (505701620, 256, (.af 21 0 (.cf (.vf 250) (.cf (.vf 251) (.cf (.vf 252) (.cf (.vf 253) .n0)))))),
  (506701623, 257, (.af 21 1 (.cf (.vf 250) (.cf (.vf 251) (.cf (.vf 252) (.cf (.vf 253) .n0)))))),
  (4079290117, 258, (.af 22 0 (.cf (.vf 250) (.cf (.vf 251) (.cf (.vf 252) (.cf (.vf 253) .n0)))))),
  (4080290120, 259, (.af 22 1 (.cf (.vf 250) (.cf (.vf 251) (.cf (.vf 252) (.cf (.vf 253) .n0)))))),
  (3887526919, 260, (.tf xe0_148 (.vf 257) (.vf 259))),
  (3886526915, 261, (.tf xe0_148 (.vf 256) (.vf 258))),
  (1033317211, 262, (.tf xe0_149 (.vf 255) (.vf 260))),
  (1032317209, 263, (.tf xe0_149 (.vf 254) (.vf 261))),
  (4189920954, 264, (.tf xe0_127 xe0_150 (.vf 262))),
  (4189920955, 265, (.tf xe0_127 xe0_150 (.vf 263))),
  (1700373858, 266, (.tf xe0_152 (.vf 213) (.tf xe0_153 (.vf 239) (.vf 265)))),
  (1698373851, 267, (.tf xe0_152 (.vf 212) (.tf xe0_153 (.vf 238) (.vf 264)))),
  (2948164174, 268, (.tf xe0_154 xe0_156 (.vf 242))),
  (3124678781, 269, (.tf xe0_154 xe0_157 (.vf 243))),
  (1978687195, 270, (.tf xe0_159 xe0_4 (.tf xe0_160 xe0_6 (.tf xe0_161 (.vf 102) (.tf xe0_162 (.vf 122) (.tf xe0_163 (.vf 146) (.tf xe0_164 (.vf 171) (.tf xe0_165 (.vf 196) (.tf xe0_166 (.vf 222) (.vf 248)))))))))),
  (2624984014, 271, (.tf xe0_168 xe0_4 (.tf xe0_169 xe0_6 (.tf xe0_170 (.vf 102) (.tf xe0_171 (.vf 122) (.tf xe0_172 (.vf 146) (.tf xe0_173 (.vf 171) (.tf xe0_174 (.vf 196) (.tf xe0_175 (.vf 222) (.vf 248)))))))))),
  (3148665693, 272, (.tf xe0_177 (.fb .sub (.vf 270) (.vf 271)) (.fb .mul (.vf 270) (.vf 271)))),
  (2051816538, 273, (.tf xe0_178 (.fb .add (.vf 270) (.vf 271)) (.vf 272))),
  (519539923, 274, (.tf xe0_154 xe0_179 (.vf 273))),
  (2123684000, 275, (.tf xe0_181 (.vf 222) (.tf xe0_182 (.vf 248) (.vf 274)))),
  (3307181307, 276, (.tf xe0_159 xe0_20 (.tf xe0_160 xe0_6 (.tf xe0_161 (.vf 115) (.tf xe0_162 (.vf 139) (.tf xe0_163 (.vf 163) (.tf xe0_164 (.vf 188) (.tf xe0_165 (.vf 213) (.tf xe0_166 (.vf 239) (.vf 265)))))))))),
  (2779348414, 277, (.tf xe0_159 xe0_21 (.tf xe0_160 xe0_6 (.tf xe0_161 (.vf 114) (.tf xe0_162 (.vf 138) (.tf xe0_163 (.vf 162) (.tf xe0_164 (.vf 187) (.tf xe0_165 (.vf 212) (.tf xe0_166 (.vf 238) (.vf 264)))))))))),
  (3953478126, 278, (.tf xe0_168 xe0_20 (.tf xe0_169 xe0_6 (.tf xe0_170 (.vf 115) (.tf xe0_171 (.vf 139) (.tf xe0_172 (.vf 163) (.tf xe0_173 (.vf 188) (.tf xe0_174 (.vf 213) (.tf xe0_175 (.vf 239) (.vf 265)))))))))),
  (3425645233, 279, (.tf xe0_168 xe0_21 (.tf xe0_169 xe0_6 (.tf xe0_170 (.vf 114) (.tf xe0_171 (.vf 138) (.tf xe0_172 (.vf 162) (.tf xe0_173 (.vf 187) (.tf xe0_174 (.vf 212) (.tf xe0_175 (.vf 238) (.vf 264)))))))))),
  (1331080726, 280, (.af 20 0 (.cf (.vf 276) (.cf (.vf 277) (.cf (.vf 278) (.cf (.vf 279) .n0)))))),
  (1332080729, 281, (.af 20 1 (.cf (.vf 276) (.cf (.vf 277) (.cf (.vf 278) (.cf (.vf 279) .n0)))))),
  (609701932, 282, (.af 21 0 (.cf (.vf 276) (.cf (.vf 277) (.cf (.vf 278) (.cf (.vf 279) .n0)))))),
  (610701935, 283, (.af 21 1 (.cf (.vf 276) (.cf (.vf 277) (.cf (.vf 278) (.cf (.vf 279) .n0)))))),
  (4183290429, 284, (.af 22 0 (.cf (.vf 276) (.cf (.vf 277) (.cf (.vf 278) (.cf (.vf 279) .n0)))))),
  (4184290432, 285, (.af 22 1 (.cf (.vf 276) (.cf (.vf 277) (.cf (.vf 278) (.cf (.vf 279) .n0)))))),
  (268400793, 286, (.tf xe0_177 (.vf 283) (.vf 285))),
  (267400789, 287, (.tf xe0_177 (.vf 282) (.vf 284))),
  (1709158376, 288, (.tf xe0_178 (.vf 281) (.vf 286))),
  (1708158374, 289, (.tf xe0_178 (.vf 280) (.vf 287))),
  (519539938, 290, (.tf xe0_154 xe0_179 (.vf 288))),
  (519539939, 291, (.tf xe0_154 xe0_179 (.vf 289))),
  (2157684119, 292, (.tf xe0_181 (.vf 239) (.tf xe0_182 (.vf 265) (.vf 291)))),
  (2155684112, 293, (.tf xe0_181 (.vf 238) (.tf xe0_182 (.vf 264) (.vf 290))))]
set_option maxRecDepth 1000000 in
set_option maxHeartbeats 100000000 in
theorem xG0 : tabGood 100 xN0 = true := by kernel_rfl
end Go.Proofs.Ytilhcamdjehpnaa
