/-
  'TapeEvals': what names stand for, where the first rest is 0.
-/
import Derived.Test.YticbgaflhiokgaaM3t
namespace Go.Proofs.Yticbgaflhiokgaa
open Go.RowKit Ex
def tapeEvalsE0_0 : E := (.ic .eql (.ai 9 0 (.ci (.at 1 0) (.ci (.li 11) .n0))) (.li 0))
def tapeEvalsE0_1 : E := (.ic .eql (.ti tapeEvalsE0_0 (.li 0) (.ai 9 0 (.ci (.ib .quo .i64 (.at 1 0) (.li 4)) (.ci (.li 2) .n0)))) (.li 0))
def tapeEvalsE0_2 : E := (.fb .quo (.i2f (.ib .sub .i64 (.ai 9 0 (.ci (.ti (.ic .lss (.li 0) (.vl 3)) (.at 3 0) (.li 0)) (.ci (.li 65) .n0))) (.li 32))) (.lf 4620693217682128896))
def tapeEvalsE0_3 : E := (.fb .quo (.i2f (.ib .sub .i64 (.ai 9 0 (.ci (.vi 0) (.ci (.li 17) .n0))) (.li 8))) (.lf 4616189618054758400))
def tapeEvalsE0_4 : E := (.tf tapeEvalsE0_1 tapeEvalsE0_2 tapeEvalsE0_3)
def tapeEvalsE0_5 : E := (.ic .eql (.ti tapeEvalsE0_0 (.li 0) (.ai 9 0 (.ci (.ib .quo .i64 (.at 1 0) (.li 40)) (.ci (.li 2) .n0)))) (.li 0))
def tapeEvalsE0_6 : E := (.tf tapeEvalsE0_5 tapeEvalsE0_2 tapeEvalsE0_3)
def tapeEvalsE0_7 : E := (.ib .add .i64 (.li 2) (.ai 9 0 (.ci (.at 1 0) (.ci (.li 3) .n0))))
def tapeEvalsE0_8 : E := (.ic .eql tapeEvalsE0_7 (.li 3))
def tapeEvalsE0_9 : E := (.ic .eql tapeEvalsE0_7 (.li 2))
def tapeEvalsE0_10 : E := (.ic .eql (.ai 9 0 (.ci (.at 1 0) (.ci (.li 7) .n0))) (.li 0))
def tapeEvalsE0_11 : E := (.tf tapeEvalsE0_0 (.fb .quo (.i2f (.ib .sub .i64 (.ai 9 0 (.ci (.ib .quo .i64 (.at 1 0) (.li 11)) (.ci (.li 33) .n0))) (.li 16))) (.lf 4620693217682128896)) (.lf 0))
def tapeEvalsE0_12 : E := (.ic .eql (.ai 9 0 (.ci (.at 1 1) (.ci (.li 11) .n0))) (.li 0))
def tapeEvalsE0_13 : E := (.ti tapeEvalsE0_12 (.li 0) (.ai 9 0 (.ci (.ib .quo .i64 (.at 1 1) (.li 4)) (.ci (.li 3) .n0))))
def tapeEvalsE0_14 : E := (.ic .eql tapeEvalsE0_13 (.li 0))
def tapeEvalsE0_15 : E := (.ic .eql tapeEvalsE0_13 (.li 1))
def tapeEvalsE0_16 : E := (.ti tapeEvalsE0_12 (.li 0) (.ai 9 0 (.ci (.ib .quo .i64 (.at 1 1) (.li 40)) (.ci (.li 3) .n0))))
def tapeEvalsE0_17 : E := (.ic .eql tapeEvalsE0_16 (.li 0))
def tapeEvalsE0_18 : E := (.ic .eql tapeEvalsE0_16 (.li 1))
def tapeEvalsE0_19 : E := (.ib .add .i64 (.li 2) (.ai 9 0 (.ci (.at 1 1) (.ci (.li 3) .n0))))
def tapeEvalsE0_20 : E := (.ic .eql tapeEvalsE0_19 (.li 3))
def tapeEvalsE0_21 : E := (.ic .eql tapeEvalsE0_19 (.li 2))
def tapeEvalsE0_22 : E := (.ic .eql (.ai 9 0 (.ci (.at 1 1) (.ci (.li 7) .n0))) (.li 0))
def tapeEvalsE0_23 : E := (.tf tapeEvalsE0_12 (.fb .quo (.i2f (.ib .sub .i64 (.ai 9 0 (.ci (.ib .quo .i64 (.at 1 1) (.li 11)) (.ci (.li 33) .n0))) (.li 16))) (.lf 4620693217682128896)) (.lf 0))
def tapeEvalsE0_24 : E := (.ic .eql (.ai 9 0 (.ci (.at 1 2) (.ci (.li 11) .n0))) (.li 0))
def tapeEvalsE0_25 : E := (.ti tapeEvalsE0_24 (.li 0) (.ai 9 0 (.ci (.ib .quo .i64 (.at 1 2) (.li 4)) (.ci (.li 4) .n0))))
def tapeEvalsE0_26 : E := (.ic .eql tapeEvalsE0_25 (.li 0))
def tapeEvalsE0_27 : E := (.ic .eql tapeEvalsE0_25 (.li 1))
def tapeEvalsE0_28 : E := (.ic .eql tapeEvalsE0_25 (.li 2))
def tapeEvalsE0_29 : E := (.ti tapeEvalsE0_24 (.li 0) (.ai 9 0 (.ci (.ib .quo .i64 (.at 1 2) (.li 40)) (.ci (.li 4) .n0))))
def tapeEvalsE0_30 : E := (.ic .eql tapeEvalsE0_29 (.li 0))
def tapeEvalsE0_31 : E := (.ic .eql tapeEvalsE0_29 (.li 1))
def tapeEvalsE0_32 : E := (.ic .eql tapeEvalsE0_29 (.li 2))
def tapeEvalsE0_33 : E := (.ib .add .i64 (.li 2) (.ai 9 0 (.ci (.at 1 2) (.ci (.li 3) .n0))))
def tapeEvalsE0_34 : E := (.ic .eql tapeEvalsE0_33 (.li 3))
def tapeEvalsE0_35 : E := (.ic .eql tapeEvalsE0_33 (.li 2))
def tapeEvalsE0_36 : E := (.ic .eql (.ai 9 0 (.ci (.at 1 2) (.ci (.li 7) .n0))) (.li 0))
def tapeEvalsE0_37 : E := (.tf tapeEvalsE0_24 (.fb .quo (.i2f (.ib .sub .i64 (.ai 9 0 (.ci (.ib .quo .i64 (.at 1 2) (.li 11)) (.ci (.li 33) .n0))) (.li 16))) (.lf 4620693217682128896)) (.lf 0))
def tapeEvalsE0_38 : E := (.ic .eql (.ai 9 0 (.ci (.at 1 3) (.ci (.li 11) .n0))) (.li 0))
def tapeEvalsE0_39 : E := (.ti tapeEvalsE0_38 (.li 0) (.ai 9 0 (.ci (.ib .quo .i64 (.at 1 3) (.li 4)) (.ci (.li 5) .n0))))
def tapeEvalsE0_40 : E := (.ic .eql tapeEvalsE0_39 (.li 0))
def tapeEvalsE0_41 : E := (.ic .eql tapeEvalsE0_39 (.li 1))
def tapeEvalsE0_42 : E := (.ic .eql tapeEvalsE0_39 (.li 2))
def tapeEvalsE0_43 : E := (.ic .eql tapeEvalsE0_39 (.li 3))
def tapeEvalsE0_44 : E := (.ti tapeEvalsE0_38 (.li 0) (.ai 9 0 (.ci (.ib .quo .i64 (.at 1 3) (.li 40)) (.ci (.li 5) .n0))))
def tapeEvalsE0_45 : E := (.ic .eql tapeEvalsE0_44 (.li 0))
def tapeEvalsE0_46 : E := (.ic .eql tapeEvalsE0_44 (.li 1))
def tapeEvalsE0_47 : E := (.ic .eql tapeEvalsE0_44 (.li 2))
def tapeEvalsE0_48 : E := (.ic .eql tapeEvalsE0_44 (.li 3))
def tapeEvalsE0_49 : E := (.ib .add .i64 (.li 2) (.ai 9 0 (.ci (.at 1 3) (.ci (.li 3) .n0))))
def tapeEvalsE0_50 : E := (.ic .eql tapeEvalsE0_49 (.li 3))
def tapeEvalsE0_51 : E := (.ic .eql tapeEvalsE0_49 (.li 2))
def tapeEvalsE0_52 : E := (.ic .eql (.ai 9 0 (.ci (.at 1 3) (.ci (.li 7) .n0))) (.li 0))
def tapeEvalsE0_53 : E := (.tf tapeEvalsE0_38 (.fb .quo (.i2f (.ib .sub .i64 (.ai 9 0 (.ci (.ib .quo .i64 (.at 1 3) (.li 11)) (.ci (.li 33) .n0))) (.li 16))) (.lf 4620693217682128896)) (.lf 0))
def tapeEvalsE0_54 : E := (.ic .eql (.ai 9 0 (.ci (.at 1 4) (.ci (.li 11) .n0))) (.li 0))
def tapeEvalsE0_55 : E := (.ti tapeEvalsE0_54 (.li 0) (.ai 9 0 (.ci (.ib .quo .i64 (.at 1 4) (.li 4)) (.ci (.li 6) .n0))))
def tapeEvalsE0_56 : E := (.ic .eql tapeEvalsE0_55 (.li 0))
def tapeEvalsE0_57 : E := (.ic .eql tapeEvalsE0_55 (.li 1))
def tapeEvalsE0_58 : E := (.ic .eql tapeEvalsE0_55 (.li 2))
def tapeEvalsE0_59 : E := (.ic .eql tapeEvalsE0_55 (.li 3))
def tapeEvalsE0_60 : E := (.ic .eql tapeEvalsE0_55 (.li 4))
def tapeEvalsE0_61 : E := (.ti tapeEvalsE0_54 (.li 0) (.ai 9 0 (.ci (.ib .quo .i64 (.at 1 4) (.li 40)) (.ci (.li 6) .n0))))
def tapeEvalsE0_62 : E := (.ic .eql tapeEvalsE0_61 (.li 0))
def tapeEvalsE0_63 : E := (.ic .eql tapeEvalsE0_61 (.li 1))
def tapeEvalsE0_64 : E := (.ic .eql tapeEvalsE0_61 (.li 2))
def tapeEvalsE0_65 : E := (.ic .eql tapeEvalsE0_61 (.li 3))
def tapeEvalsE0_66 : E := (.ic .eql tapeEvalsE0_61 (.li 4))
def tapeEvalsE0_67 : E := (.ib .add .i64 (.li 2) (.ai 9 0 (.ci (.at 1 4) (.ci (.li 3) .n0))))
def tapeEvalsE0_68 : E := (.ic .eql tapeEvalsE0_67 (.li 3))
def tapeEvalsE0_69 : E := (.ic .eql tapeEvalsE0_67 (.li 2))
def tapeEvalsE0_70 : E := (.ic .eql (.ai 9 0 (.ci (.at 1 4) (.ci (.li 7) .n0))) (.li 0))
def tapeEvalsE0_71 : E := (.tf tapeEvalsE0_54 (.fb .quo (.i2f (.ib .sub .i64 (.ai 9 0 (.ci (.ib .quo .i64 (.at 1 4) (.li 11)) (.ci (.li 33) .n0))) (.li 16))) (.lf 4620693217682128896)) (.lf 0))
def tapeEvalsE0_72 : E := (.ic .eql (.ai 9 0 (.ci (.at 1 5) (.ci (.li 11) .n0))) (.li 0))
def tapeEvalsE0_73 : E := (.ti tapeEvalsE0_72 (.li 0) (.ai 9 0 (.ci (.ib .quo .i64 (.at 1 5) (.li 4)) (.ci (.li 7) .n0))))
def tapeEvalsE0_74 : E := (.ic .eql tapeEvalsE0_73 (.li 0))
def tapeEvalsE0_75 : E := (.ic .eql tapeEvalsE0_73 (.li 1))
def tapeEvalsE0_76 : E := (.ic .eql tapeEvalsE0_73 (.li 2))
def tapeEvalsE0_77 : E := (.ic .eql tapeEvalsE0_73 (.li 3))
def tapeEvalsE0_78 : E := (.ic .eql tapeEvalsE0_73 (.li 4))
def tapeEvalsE0_79 : E := (.ic .eql tapeEvalsE0_73 (.li 5))
def tapeEvalsE0_80 : E := (.ti tapeEvalsE0_72 (.li 0) (.ai 9 0 (.ci (.ib .quo .i64 (.at 1 5) (.li 40)) (.ci (.li 7) .n0))))
def tapeEvalsE0_81 : E := (.ic .eql tapeEvalsE0_80 (.li 0))
def tapeEvalsE0_82 : E := (.ic .eql tapeEvalsE0_80 (.li 1))
def tapeEvalsE0_83 : E := (.ic .eql tapeEvalsE0_80 (.li 2))
def tapeEvalsE0_84 : E := (.ic .eql tapeEvalsE0_80 (.li 3))
def tapeEvalsE0_85 : E := (.ic .eql tapeEvalsE0_80 (.li 4))
def tapeEvalsE0_86 : E := (.ic .eql tapeEvalsE0_80 (.li 5))
def tapeEvalsE0_87 : E := (.ib .add .i64 (.li 2) (.ai 9 0 (.ci (.at 1 5) (.ci (.li 3) .n0))))
def tapeEvalsE0_88 : E := (.ic .eql tapeEvalsE0_87 (.li 3))
def tapeEvalsE0_89 : E := (.ic .eql tapeEvalsE0_87 (.li 2))
def tapeEvalsE0_90 : E := (.ic .eql (.ai 9 0 (.ci (.at 1 5) (.ci (.li 7) .n0))) (.li 0))
def tapeEvalsE0_91 : E := (.tf tapeEvalsE0_72 (.fb .quo (.i2f (.ib .sub .i64 (.ai 9 0 (.ci (.ib .quo .i64 (.at 1 5) (.li 11)) (.ci (.li 33) .n0))) (.li 16))) (.lf 4620693217682128896)) (.lf 0))
def tapeEvalsE0_92 : E := (.ic .eql (.ai 9 0 (.ci (.at 1 6) (.ci (.li 11) .n0))) (.li 0))
def tapeEvalsE0_93 : E := (.ti tapeEvalsE0_92 (.li 0) (.ai 9 0 (.ci (.ib .quo .i64 (.at 1 6) (.li 4)) (.ci (.li 8) .n0))))
def tapeEvalsE0_94 : E := (.ic .eql tapeEvalsE0_93 (.li 0))
def tapeEvalsE0_95 : E := (.ic .eql tapeEvalsE0_93 (.li 1))
def tapeEvalsE0_96 : E := (.ic .eql tapeEvalsE0_93 (.li 2))
def tapeEvalsE0_97 : E := (.ic .eql tapeEvalsE0_93 (.li 3))
def tapeEvalsE0_98 : E := (.ic .eql tapeEvalsE0_93 (.li 4))
def tapeEvalsE0_99 : E := (.ic .eql tapeEvalsE0_93 (.li 5))
def tapeEvalsE0_100 : E := (.ic .eql tapeEvalsE0_93 (.li 6))
def tapeEvalsE0_101 : E := (.ti tapeEvalsE0_92 (.li 0) (.ai 9 0 (.ci (.ib .quo .i64 (.at 1 6) (.li 40)) (.ci (.li 8) .n0))))
def tapeEvalsE0_102 : E := (.ic .eql tapeEvalsE0_101 (.li 0))
def tapeEvalsE0_103 : E := (.ic .eql tapeEvalsE0_101 (.li 1))
def tapeEvalsE0_104 : E := (.ic .eql tapeEvalsE0_101 (.li 2))
def tapeEvalsE0_105 : E := (.ic .eql tapeEvalsE0_101 (.li 3))
def tapeEvalsE0_106 : E := (.ic .eql tapeEvalsE0_101 (.li 4))
def tapeEvalsE0_107 : E := (.ic .eql tapeEvalsE0_101 (.li 5))
def tapeEvalsE0_108 : E := (.ic .eql tapeEvalsE0_101 (.li 6))
def tapeEvalsE0_109 : E := (.ib .add .i64 (.li 2) (.ai 9 0 (.ci (.at 1 6) (.ci (.li 3) .n0))))
def tapeEvalsE0_110 : E := (.ic .eql tapeEvalsE0_109 (.li 3))
def tapeEvalsE0_111 : E := (.ic .eql tapeEvalsE0_109 (.li 2))
def tapeEvalsE0_112 : E := (.ic .eql (.ai 9 0 (.ci (.at 1 6) (.ci (.li 7) .n0))) (.li 0))
def tapeEvalsE0_113 : E := (.tf tapeEvalsE0_92 (.fb .quo (.i2f (.ib .sub .i64 (.ai 9 0 (.ci (.ib .quo .i64 (.at 1 6) (.li 11)) (.ci (.li 33) .n0))) (.li 16))) (.lf 4620693217682128896)) (.lf 0))
def tapeEvalsE0_114 : E := (.ic .eql (.ai 9 0 (.ci (.at 1 7) (.ci (.li 11) .n0))) (.li 0))
def tapeEvalsE0_115 : E := (.ti tapeEvalsE0_114 (.li 0) (.ai 9 0 (.ci (.ib .quo .i64 (.at 1 7) (.li 4)) (.ci (.li 9) .n0))))
def tapeEvalsE0_116 : E := (.ic .eql tapeEvalsE0_115 (.li 0))
def tapeEvalsE0_117 : E := (.ic .eql tapeEvalsE0_115 (.li 1))
def tapeEvalsE0_118 : E := (.ic .eql tapeEvalsE0_115 (.li 2))
def tapeEvalsE0_119 : E := (.ic .eql tapeEvalsE0_115 (.li 3))
def tapeEvalsE0_120 : E := (.ic .eql tapeEvalsE0_115 (.li 4))
def tapeEvalsE0_121 : E := (.ic .eql tapeEvalsE0_115 (.li 5))
def tapeEvalsE0_122 : E := (.ic .eql tapeEvalsE0_115 (.li 6))
def tapeEvalsE0_123 : E := (.ic .eql tapeEvalsE0_115 (.li 7))
def tapeEvalsE0_124 : E := (.ti tapeEvalsE0_114 (.li 0) (.ai 9 0 (.ci (.ib .quo .i64 (.at 1 7) (.li 40)) (.ci (.li 9) .n0))))
def tapeEvalsE0_125 : E := (.ic .eql tapeEvalsE0_124 (.li 0))
def tapeEvalsE0_126 : E := (.ic .eql tapeEvalsE0_124 (.li 1))
def tapeEvalsE0_127 : E := (.ic .eql tapeEvalsE0_124 (.li 2))
def tapeEvalsE0_128 : E := (.ic .eql tapeEvalsE0_124 (.li 3))
def tapeEvalsE0_129 : E := (.ic .eql tapeEvalsE0_124 (.li 4))
def tapeEvalsE0_130 : E := (.ic .eql tapeEvalsE0_124 (.li 5))
def tapeEvalsE0_131 : E := (.ic .eql tapeEvalsE0_124 (.li 6))
def tapeEvalsE0_132 : E := (.ic .eql tapeEvalsE0_124 (.li 7))
def tapeEvalsE0_133 : E := (.ib .add .i64 (.li 2) (.ai 9 0 (.ci (.at 1 7) (.ci (.li 3) .n0))))
def tapeEvalsE0_134 : E := (.ic .eql tapeEvalsE0_133 (.li 3))
def tapeEvalsE0_135 : E := (.ic .eql tapeEvalsE0_133 (.li 2))
def tapeEvalsE0_136 : E := (.ic .eql (.ai 9 0 (.ci (.at 1 7) (.ci (.li 7) .n0))) (.li 0))
def tapeEvalsE0_137 : E := (.tf tapeEvalsE0_114 (.fb .quo (.i2f (.ib .sub .i64 (.ai 9 0 (.ci (.ib .quo .i64 (.at 1 7) (.li 11)) (.ci (.li 33) .n0))) (.li 16))) (.lf 4620693217682128896)) (.lf 0))
def tapeEvalsE0_138 : E := (.ib .add .i64 (.ib .quo .i64 (.vi 0) (.li 3)) (.li 0))
def tapeEvalsE0_139 : E := (.ai 9 0 (.ci tapeEvalsE0_138 (.ci (.li 3) .n0)))
def tapeEvalsE0_140 : E := (.ib .sub .i64 (.ib .sub .i64 (.li 9) tapeEvalsE0_139) (.li 7))
def tapeEvalsE0_141 : E := (.ic .eql tapeEvalsE0_140 (.li 0))
def tapeEvalsE0_142 : E := (.ic .eql tapeEvalsE0_140 (.li 1))
def tapeEvalsE0_143 : E := (.ic .lss (.li 0) (.vl 4))
def tapeEvalsE0_144 : E := (.ib .sub .i64 (.ib .sub .i64 (.li 8) tapeEvalsE0_139) (.li 6))
def tapeEvalsE0_145 : E := (.ic .eql tapeEvalsE0_144 (.li 0))
def tapeEvalsE0_146 : E := (.ic .eql tapeEvalsE0_144 (.li 1))
def tapeEvalsE0_147 : E := (.ib .sub .i64 (.ib .sub .i64 (.li 7) tapeEvalsE0_139) (.li 5))
def tapeEvalsE0_148 : E := (.ic .eql tapeEvalsE0_147 (.li 0))
def tapeEvalsE0_149 : E := (.ic .eql tapeEvalsE0_147 (.li 1))
def tapeEvalsE0_150 : E := (.ib .sub .i64 (.ib .sub .i64 (.li 6) tapeEvalsE0_139) (.li 4))
def tapeEvalsE0_151 : E := (.ic .eql tapeEvalsE0_150 (.li 0))
def tapeEvalsE0_152 : E := (.ic .eql tapeEvalsE0_150 (.li 1))
def tapeEvalsE0_153 : E := (.ib .sub .i64 (.ib .sub .i64 (.li 5) tapeEvalsE0_139) (.li 3))
def tapeEvalsE0_154 : E := (.ic .eql tapeEvalsE0_153 (.li 0))
def tapeEvalsE0_155 : E := (.ic .eql tapeEvalsE0_153 (.li 1))
def tapeEvalsE0_156 : E := (.ib .sub .i64 (.ib .sub .i64 (.li 4) tapeEvalsE0_139) (.li 2))
def tapeEvalsE0_157 : E := (.ic .eql tapeEvalsE0_156 (.li 0))
def tapeEvalsE0_158 : E := (.ic .eql tapeEvalsE0_156 (.li 1))
def tapeEvalsE0_159 : E := (.ib .sub .i64 (.ib .sub .i64 (.li 3) tapeEvalsE0_139) (.li 1))
def tapeEvalsE0_160 : E := (.ic .eql tapeEvalsE0_159 (.li 0))
def tapeEvalsE0_161 : E := (.ic .eql tapeEvalsE0_159 (.li 1))
def tapeEvalsE0_162 : E := (.ib .sub .i64 (.li 2) tapeEvalsE0_139)
def tapeEvalsE0_163 : E := (.ic .eql tapeEvalsE0_162 (.li 0))
def tapeEvalsE0_164 : E := (.ic .eql tapeEvalsE0_162 (.li 1))
def tapeEvalsE0_165 : E := (.ic .eql (.ib .sub .i64 (.li 1) (.ai 9 0 (.ci tapeEvalsE0_138 (.ci (.li 2) .n0)))) (.li 0))
def tapeEvalsNms0 : Nms := [(3562356386, 100, (.fb .add tapeEvalsE0_4 tapeEvalsE0_6)),
  (2840977592, 101, (.fb .sub tapeEvalsE0_4 tapeEvalsE0_6)),
  (2119598798, 102, (.fb .mul tapeEvalsE0_4 tapeEvalsE0_6)),
  (4127447219, 103, (.tf tapeEvalsE0_8 (.vf 101) (.vf 102))),
  (1274237514, 104, (.tf tapeEvalsE0_9 (.vf 100) (.vf 103))),
  (1398220004, 105, (.fb .quo tapeEvalsE0_4 tapeEvalsE0_6)),
  (326590964, 106, (.tf tapeEvalsE0_10 (.vf 105) (.vf 104))),
  (1220405726, 107, (.tf tapeEvalsE0_0 tapeEvalsE0_11 (.tf (.vb 2) (.vf 106) (.vf 104)))),
  (494664239, 108, (.tf tapeEvalsE0_14 tapeEvalsE0_2 (.tf tapeEvalsE0_15 tapeEvalsE0_3 (.vf 107)))),
  (3877463912, 109, (.tf tapeEvalsE0_17 tapeEvalsE0_2 (.tf tapeEvalsE0_18 tapeEvalsE0_3 (.vf 107)))),
  (4119833255, 110, (.tf tapeEvalsE0_20 (.fb .sub (.vf 108) (.vf 109)) (.fb .mul (.vf 108) (.vf 109)))),
  (3184984586, 111, (.tf tapeEvalsE0_21 (.fb .add (.vf 108) (.vf 109)) (.vf 110))),
  (3181550664, 112, (.tf tapeEvalsE0_22 (.fb .quo (.vf 108) (.vf 109)) (.vf 111))),
  (535076580, 113, (.tf tapeEvalsE0_12 tapeEvalsE0_23 (.tf (.vb 2) (.vf 112) (.vf 111)))),
  (96721225, 114, (.tf tapeEvalsE0_26 tapeEvalsE0_2 (.tf tapeEvalsE0_27 tapeEvalsE0_3 (.tf tapeEvalsE0_28 (.vf 107) (.vf 113))))),
  (3023437089, 115, (.tf tapeEvalsE0_30 tapeEvalsE0_2 (.tf tapeEvalsE0_31 tapeEvalsE0_3 (.tf tapeEvalsE0_32 (.vf 107) (.vf 113))))),
  (453401594, 116, (.tf tapeEvalsE0_34 (.fb .sub (.vf 114) (.vf 115)) (.fb .mul (.vf 114) (.vf 115)))),
  (3807520198, 117, (.tf tapeEvalsE0_35 (.fb .add (.vf 114) (.vf 115)) (.vf 116))),
  (3804086276, 118, (.tf tapeEvalsE0_36 (.fb .quo (.vf 114) (.vf 115)) (.vf 117))),
  (4144714724, 119, (.tf tapeEvalsE0_24 tapeEvalsE0_37 (.tf (.vb 2) (.vf 118) (.vf 117)))),
  (1547891518, 120, (.tf tapeEvalsE0_40 tapeEvalsE0_2 (.tf tapeEvalsE0_41 tapeEvalsE0_3 (.tf tapeEvalsE0_42 (.vf 107) (.tf tapeEvalsE0_43 (.vf 113) (.vf 119)))))),
  (4018523573, 121, (.tf tapeEvalsE0_45 tapeEvalsE0_2 (.tf tapeEvalsE0_46 tapeEvalsE0_3 (.tf tapeEvalsE0_47 (.vf 107) (.tf tapeEvalsE0_48 (.vf 113) (.vf 119)))))),
  (1081937224, 122, (.tf tapeEvalsE0_50 (.fb .sub (.vf 120) (.vf 121)) (.fb .mul (.vf 120) (.vf 121)))),
  (135088519, 123, (.tf tapeEvalsE0_51 (.fb .add (.vf 120) (.vf 121)) (.vf 122))),
  (131654597, 124, (.tf tapeEvalsE0_52 (.fb .quo (.vf 120) (.vf 121)) (.vf 123))),
  (3459385577, 125, (.tf tapeEvalsE0_38 tapeEvalsE0_53 (.tf (.vb 2) (.vf 124) (.vf 123)))),
  (553207827, 126, (.tf tapeEvalsE0_56 tapeEvalsE0_2 (.tf tapeEvalsE0_57 tapeEvalsE0_3 (.tf tapeEvalsE0_58 (.vf 107) (.tf tapeEvalsE0_59 (.vf 113) (.tf tapeEvalsE0_60 (.vf 119) (.vf 125))))))),
  (2567756073, 127, (.tf tapeEvalsE0_62 tapeEvalsE0_2 (.tf tapeEvalsE0_63 tapeEvalsE0_3 (.tf tapeEvalsE0_64 (.vf 107) (.tf tapeEvalsE0_65 (.vf 113) (.tf tapeEvalsE0_66 (.vf 119) (.vf 125))))))),
  (1710472854, 128, (.tf tapeEvalsE0_68 (.fb .sub (.vf 126) (.vf 127)) (.fb .mul (.vf 126) (.vf 127)))),
  (757624131, 129, (.tf tapeEvalsE0_69 (.fb .add (.vf 126) (.vf 127)) (.vf 128))),
  (754190209, 130, (.tf tapeEvalsE0_70 (.fb .quo (.vf 126) (.vf 127)) (.vf 129))),
  (2774056430, 131, (.tf tapeEvalsE0_54 tapeEvalsE0_71 (.tf (.vb 2) (.vf 130) (.vf 129)))),
  (1407637443, 132, (.tf tapeEvalsE0_74 tapeEvalsE0_2 (.tf tapeEvalsE0_75 tapeEvalsE0_3 (.tf tapeEvalsE0_76 (.vf 107) (.tf tapeEvalsE0_77 (.vf 113) (.tf tapeEvalsE0_78 (.vf 119) (.tf tapeEvalsE0_79 (.vf 125) (.vf 131)))))))),
  (2966101880, 133, (.tf tapeEvalsE0_81 tapeEvalsE0_2 (.tf tapeEvalsE0_82 tapeEvalsE0_3 (.tf tapeEvalsE0_83 (.vf 107) (.tf tapeEvalsE0_84 (.vf 113) (.tf tapeEvalsE0_85 (.vf 119) (.tf tapeEvalsE0_86 (.vf 125) (.vf 131)))))))),
  (2339008484, 134, (.tf tapeEvalsE0_88 (.fb .sub (.vf 132) (.vf 133)) (.fb .mul (.vf 132) (.vf 133)))),
  (1380159743, 135, (.tf tapeEvalsE0_89 (.fb .add (.vf 132) (.vf 133)) (.vf 134))),
  (1376725821, 136, (.tf tapeEvalsE0_90 (.fb .quo (.vf 132) (.vf 133)) (.vf 135))),
  (2088727283, 137, (.tf tapeEvalsE0_72 tapeEvalsE0_91 (.tf (.vb 2) (.vf 136) (.vf 135)))),
  (4111180366, 138, (.tf tapeEvalsE0_94 tapeEvalsE0_2 (.tf tapeEvalsE0_95 tapeEvalsE0_3 (.tf tapeEvalsE0_96 (.vf 107) (.tf tapeEvalsE0_97 (.vf 113) (.tf tapeEvalsE0_98 (.vf 119) (.tf tapeEvalsE0_99 (.vf 125) (.tf tapeEvalsE0_100 (.vf 131) (.vf 137))))))))),
  (918593703, 139, (.tf tapeEvalsE0_102 tapeEvalsE0_2 (.tf tapeEvalsE0_103 tapeEvalsE0_3 (.tf tapeEvalsE0_104 (.vf 107) (.tf tapeEvalsE0_105 (.vf 113) (.tf tapeEvalsE0_106 (.vf 119) (.tf tapeEvalsE0_107 (.vf 125) (.tf tapeEvalsE0_108 (.vf 131) (.vf 137))))))))),
  (2967544114, 140, (.tf tapeEvalsE0_110 (.fb .sub (.vf 138) (.vf 139)) (.fb .mul (.vf 138) (.vf 139)))),
  (2002695355, 141, (.tf tapeEvalsE0_111 (.fb .add (.vf 138) (.vf 139)) (.vf 140))),
  (1999261433, 142, (.tf tapeEvalsE0_112 (.fb .quo (.vf 138) (.vf 139)) (.vf 141))),
  (1403398136, 143, (.tf tapeEvalsE0_92 tapeEvalsE0_113 (.tf (.vb 2) (.vf 142) (.vf 141)))),
  (73902014, 144, (.tf tapeEvalsE0_116 tapeEvalsE0_2 (.tf tapeEvalsE0_117 tapeEvalsE0_3 (.tf tapeEvalsE0_118 (.vf 107) (.tf tapeEvalsE0_119 (.vf 113) (.tf tapeEvalsE0_120 (.vf 119) (.tf tapeEvalsE0_121 (.vf 125) (.tf tapeEvalsE0_122 (.vf 131) (.tf tapeEvalsE0_123 (.vf 137) (.vf 143)))))))))),
  (720198833, 145, (.tf tapeEvalsE0_125 tapeEvalsE0_2 (.tf tapeEvalsE0_126 tapeEvalsE0_3 (.tf tapeEvalsE0_127 (.vf 107) (.tf tapeEvalsE0_128 (.vf 113) (.tf tapeEvalsE0_129 (.vf 119) (.tf tapeEvalsE0_130 (.vf 125) (.tf tapeEvalsE0_131 (.vf 131) (.tf tapeEvalsE0_132 (.vf 137) (.vf 143)))))))))),
  (3596079744, 146, (.tf tapeEvalsE0_134 (.fb .sub (.vf 144) (.vf 145)) (.fb .mul (.vf 144) (.vf 145)))),
  (2625230967, 147, (.tf tapeEvalsE0_135 (.fb .add (.vf 144) (.vf 145)) (.vf 146))),
  (2621797045, 148, (.tf tapeEvalsE0_136 (.fb .quo (.vf 144) (.vf 145)) (.vf 147))),
  (718068989, 149, (.tf tapeEvalsE0_114 tapeEvalsE0_137 (.tf (.vb 2) (.vf 148) (.vf 147)))),
  (1933683305, 150, (.tf tapeEvalsE0_141 (.vf 137) (.tf tapeEvalsE0_142 (.vf 143) (.vf 149)))),
  (3385690025, 151, (.tf tapeEvalsE0_12 tapeEvalsE0_23 (.tf tapeEvalsE0_0 tapeEvalsE0_11 tapeEvalsE0_3))),
  (2109842647, 152, (.tf tapeEvalsE0_24 tapeEvalsE0_37 (.vf 151))),
  (1418513477, 153, (.tf tapeEvalsE0_38 tapeEvalsE0_53 (.vf 152))),
  (727184307, 154, (.tf tapeEvalsE0_54 tapeEvalsE0_71 (.vf 153))),
  (35855137, 155, (.tf tapeEvalsE0_72 tapeEvalsE0_91 (.vf 154))),
  (3639493258, 156, (.tf tapeEvalsE0_92 tapeEvalsE0_113 (.vf 155))),
  (2948164088, 157, (.tf tapeEvalsE0_114 tapeEvalsE0_137 (.vf 156))),
  (3374369074, 158, (.tf (.ic .eql (.ai 9 0 (.ci (.at 4 0) (.ci (.li 5) .n0))) (.li 0)) (.af 31 0 (.ci (.at 4 0) .n0)) tapeEvalsE0_2)),
  (1063026111, 159, (.tf tapeEvalsE0_143 (.vf 158) tapeEvalsE0_2)),
  (3856356760, 160, (.af 30 0 (.ci (.ib .add .i64 (.vi 5) (.li 0)) (.ci (.vi 6) (.ci (.ti tapeEvalsE0_143 (.at 4 0) (.li 3)) .n0))))),
  (3857356763, 161, (.af 30 1 (.ci (.ib .add .i64 (.vi 5) (.li 0)) (.ci (.vi 6) (.ci (.ti tapeEvalsE0_143 (.at 4 0) (.li 3)) .n0))))),
  (1653782672, 162, (.tf tapeEvalsE0_1 (.vf 159) tapeEvalsE0_3)),
  (1197698863, 163, (.tf tapeEvalsE0_5 (.vf 159) tapeEvalsE0_3)),
  (3278243315, 164, (.tf tapeEvalsE0_8 (.fb .sub (.vf 162) (.vf 163)) (.fb .mul (.vf 162) (.vf 163)))),
  (2289394484, 165, (.tf tapeEvalsE0_9 (.fb .add (.vf 162) (.vf 163)) (.vf 164))),
  (2285960562, 166, (.tf tapeEvalsE0_10 (.fb .quo (.vf 162) (.vf 163)) (.vf 165))),
  (1280405967, 167, (.tf tapeEvalsE0_0 tapeEvalsE0_11 (.tf (.vb 2) (.vf 166) (.vf 165)))),
  (3068721025, 168, (.tf tapeEvalsE0_14 (.vf 159) (.tf tapeEvalsE0_15 tapeEvalsE0_3 (.vf 167)))),
  (2156553407, 169, (.tf tapeEvalsE0_17 (.vf 159) (.tf tapeEvalsE0_18 tapeEvalsE0_3 (.vf 167)))),
  (3906778945, 170, (.tf tapeEvalsE0_20 (.fb .sub (.vf 168) (.vf 169)) (.fb .mul (.vf 168) (.vf 169)))),
  (2911930096, 171, (.tf tapeEvalsE0_21 (.fb .add (.vf 168) (.vf 169)) (.vf 170))),
  (2908496174, 172, (.tf tapeEvalsE0_22 (.fb .quo (.vf 168) (.vf 169)) (.vf 171))),
  (595076820, 173, (.tf tapeEvalsE0_12 tapeEvalsE0_23 (.tf (.vb 2) (.vf 172) (.vf 171)))),
  (2730778191, 174, (.tf tapeEvalsE0_26 (.vf 159) (.tf tapeEvalsE0_27 tapeEvalsE0_3 (.tf tapeEvalsE0_28 (.vf 167) (.vf 173))))),
  (1362526764, 175, (.tf tapeEvalsE0_30 (.vf 159) (.tf tapeEvalsE0_31 tapeEvalsE0_3 (.tf tapeEvalsE0_32 (.vf 167) (.vf 173))))),
  (240347284, 176, (.tf tapeEvalsE0_34 (.fb .sub (.vf 174) (.vf 175)) (.fb .mul (.vf 174) (.vf 175)))),
  (3534465708, 177, (.tf tapeEvalsE0_35 (.fb .add (.vf 174) (.vf 175)) (.vf 176))),
  (3531031786, 178, (.tf tapeEvalsE0_36 (.fb .quo (.vf 174) (.vf 175)) (.vf 177))),
  (4204714964, 179, (.tf tapeEvalsE0_24 tapeEvalsE0_37 (.tf (.vb 2) (.vf 178) (.vf 177)))),
  (4241948664, 180, (.tf tapeEvalsE0_40 (.vf 159) (.tf tapeEvalsE0_41 tapeEvalsE0_3 (.tf tapeEvalsE0_42 (.vf 167) (.tf tapeEvalsE0_43 (.vf 173) (.vf 179)))))),
  (2417613428, 181, (.tf tapeEvalsE0_45 (.vf 159) (.tf tapeEvalsE0_46 tapeEvalsE0_3 (.tf tapeEvalsE0_47 (.vf 167) (.tf tapeEvalsE0_48 (.vf 173) (.vf 179)))))),
  (868882914, 182, (.tf tapeEvalsE0_50 (.fb .sub (.vf 180) (.vf 181)) (.fb .mul (.vf 180) (.vf 181)))),
  (4157001320, 183, (.tf tapeEvalsE0_51 (.fb .add (.vf 180) (.vf 181)) (.vf 182))),
  (4153567398, 184, (.tf tapeEvalsE0_52 (.fb .quo (.vf 180) (.vf 181)) (.vf 183))),
  (3519385817, 185, (.tf tapeEvalsE0_38 tapeEvalsE0_53 (.tf (.vb 2) (.vf 184) (.vf 183)))),
  (3307265153, 186, (.tf tapeEvalsE0_56 (.vf 159) (.tf tapeEvalsE0_57 tapeEvalsE0_3 (.tf tapeEvalsE0_58 (.vf 167) (.tf tapeEvalsE0_59 (.vf 173) (.tf tapeEvalsE0_60 (.vf 179) (.vf 185))))))),
  (1026846108, 187, (.tf tapeEvalsE0_62 (.vf 159) (.tf tapeEvalsE0_63 tapeEvalsE0_3 (.tf tapeEvalsE0_64 (.vf 167) (.tf tapeEvalsE0_65 (.vf 173) (.tf tapeEvalsE0_66 (.vf 179) (.vf 185))))))),
  (1497418544, 188, (.tf tapeEvalsE0_68 (.fb .sub (.vf 186) (.vf 187)) (.fb .mul (.vf 186) (.vf 187)))),
  (484569641, 189, (.tf tapeEvalsE0_69 (.fb .add (.vf 186) (.vf 187)) (.vf 188))),
  (481135719, 190, (.tf tapeEvalsE0_70 (.fb .quo (.vf 186) (.vf 187)) (.vf 189))),
  (2834056670, 191, (.tf tapeEvalsE0_54 tapeEvalsE0_71 (.tf (.vb 2) (.vf 190) (.vf 189)))),
  (4221694949, 192, (.tf tapeEvalsE0_74 (.vf 159) (.tf tapeEvalsE0_75 tapeEvalsE0_3 (.tf tapeEvalsE0_76 (.vf 167) (.tf tapeEvalsE0_77 (.vf 173) (.tf tapeEvalsE0_78 (.vf 179) (.tf tapeEvalsE0_79 (.vf 185) (.vf 191)))))))),
  (1485192095, 193, (.tf tapeEvalsE0_81 (.vf 159) (.tf tapeEvalsE0_82 tapeEvalsE0_3 (.tf tapeEvalsE0_83 (.vf 167) (.tf tapeEvalsE0_84 (.vf 173) (.tf tapeEvalsE0_85 (.vf 179) (.tf tapeEvalsE0_86 (.vf 185) (.vf 191)))))))),
  (2125954174, 194, (.tf tapeEvalsE0_88 (.fb .sub (.vf 192) (.vf 193)) (.fb .mul (.vf 192) (.vf 193)))),
  (1107105253, 195, (.tf tapeEvalsE0_89 (.fb .add (.vf 192) (.vf 193)) (.vf 194))),
  (1103671331, 196, (.tf tapeEvalsE0_90 (.fb .quo (.vf 192) (.vf 193)) (.vf 195))),
  (2148727523, 197, (.tf tapeEvalsE0_72 tapeEvalsE0_91 (.tf (.vb 2) (.vf 196) (.vf 195)))),
  (2690270761, 198, (.tf tapeEvalsE0_94 (.vf 159) (.tf tapeEvalsE0_95 tapeEvalsE0_3 (.tf tapeEvalsE0_96 (.vf 167) (.tf tapeEvalsE0_97 (.vf 173) (.tf tapeEvalsE0_98 (.vf 179) (.tf tapeEvalsE0_99 (.vf 185) (.tf tapeEvalsE0_100 (.vf 191) (.vf 197))))))))),
  (3792651389, 199, (.tf tapeEvalsE0_102 (.vf 159) (.tf tapeEvalsE0_103 tapeEvalsE0_3 (.tf tapeEvalsE0_104 (.vf 167) (.tf tapeEvalsE0_105 (.vf 173) (.tf tapeEvalsE0_106 (.vf 179) (.tf tapeEvalsE0_107 (.vf 185) (.tf tapeEvalsE0_108 (.vf 191) (.vf 197))))))))),
  (2754489804, 200, (.tf tapeEvalsE0_110 (.fb .sub (.vf 198) (.vf 199)) (.fb .mul (.vf 198) (.vf 199)))),
  (1729640865, 201, (.tf tapeEvalsE0_111 (.fb .add (.vf 198) (.vf 199)) (.vf 200))),
  (1726206943, 202, (.tf tapeEvalsE0_112 (.fb .quo (.vf 198) (.vf 199)) (.vf 201))),
  (1463398376, 203, (.tf tapeEvalsE0_92 tapeEvalsE0_113 (.tf (.vb 2) (.vf 202) (.vf 201)))),
  (3007959880, 204, (.tf tapeEvalsE0_116 (.vf 159) (.tf tapeEvalsE0_117 tapeEvalsE0_3 (.tf tapeEvalsE0_118 (.vf 167) (.tf tapeEvalsE0_119 (.vf 173) (.tf tapeEvalsE0_120 (.vf 179) (.tf tapeEvalsE0_121 (.vf 185) (.tf tapeEvalsE0_122 (.vf 191) (.tf tapeEvalsE0_123 (.vf 197) (.vf 203)))))))))),
  (3654256699, 205, (.tf tapeEvalsE0_125 (.vf 159) (.tf tapeEvalsE0_126 tapeEvalsE0_3 (.tf tapeEvalsE0_127 (.vf 167) (.tf tapeEvalsE0_128 (.vf 173) (.tf tapeEvalsE0_129 (.vf 179) (.tf tapeEvalsE0_130 (.vf 185) (.tf tapeEvalsE0_131 (.vf 191) (.tf tapeEvalsE0_132 (.vf 197) (.vf 203)))))))))),
  (3383025434, 206, (.tf tapeEvalsE0_134 (.fb .sub (.vf 204) (.vf 205)) (.fb .mul (.vf 204) (.vf 205)))),
  (2352176477, 207, (.tf tapeEvalsE0_135 (.fb .add (.vf 204) (.vf 205)) (.vf 206))),
  (2348742555, 208, (.tf tapeEvalsE0_136 (.fb .quo (.vf 204) (.vf 205)) (.vf 207))),
  (778069229, 209, (.tf tapeEvalsE0_114 tapeEvalsE0_137 (.tf (.vb 2) (.vf 208) (.vf 207)))),
  (2053683725, 210, (.tf tapeEvalsE0_141 (.vf 197) (.tf tapeEvalsE0_142 (.vf 203) (.vf 209)))),
  (1654782675, 211, (.tf tapeEvalsE0_1 (.vf 160) tapeEvalsE0_3)),
  (1655782678, 212, (.tf tapeEvalsE0_1 (.vf 161) tapeEvalsE0_3)),
  (1198698866, 213, (.tf tapeEvalsE0_5 (.vf 160) tapeEvalsE0_3)),
  (1199698869, 214, (.tf tapeEvalsE0_5 (.vf 161) tapeEvalsE0_3)),
  (1071079946, 215, (.af 20 0 (.cf (.vf 211) (.cf (.vf 212) (.cf (.vf 213) (.cf (.vf 214) .n0)))))),
  (1072079949, 216, (.af 20 1 (.cf (.vf 211) (.cf (.vf 212) (.cf (.vf 213) (.cf (.vf 214) .n0)))))),
  (349701152, 217, (.af 21 0 (.cf (.vf 211) (.cf (.vf 212) (.cf (.vf 213) (.cf (.vf 214) .n0)))))),
  (350701155, 218, (.af 21 1 (.cf (.vf 211) (.cf (.vf 212) (.cf (.vf 213) (.cf (.vf 214) .n0)))))),
  (3923289649, 219, (.af 22 0 (.cf (.vf 211) (.cf (.vf 212) (.cf (.vf 213) (.cf (.vf 214) .n0)))))),
  (3924289652, 220, (.af 22 1 (.cf (.vf 211) (.cf (.vf 212) (.cf (.vf 213) (.cf (.vf 214) .n0)))))),
  (4244447688, 221, (.tf tapeEvalsE0_8 (.vf 218) (.vf 220))),
  (4243447684, 222, (.tf tapeEvalsE0_8 (.vf 217) (.vf 219))),
  (1390237980, 223, (.tf tapeEvalsE0_9 (.vf 216) (.vf 221))),
  (1389237978, 224, (.tf tapeEvalsE0_9 (.vf 215) (.vf 222))),
  (3201910855, 225, (.af 23 0 (.cf (.vf 211) (.cf (.vf 212) (.cf (.vf 213) (.cf (.vf 214) .n0)))))),
  (3202910858, 226, (.af 23 1 (.cf (.vf 211) (.cf (.vf 212) (.cf (.vf 213) (.cf (.vf 214) .n0)))))),
  (447591446, 227, (.tf tapeEvalsE0_10 (.vf 226) (.vf 223))),
  (446591444, 228, (.tf tapeEvalsE0_10 (.vf 225) (.vf 224))),
  (1341406208, 229, (.tf tapeEvalsE0_0 tapeEvalsE0_11 (.tf (.vb 2) (.vf 227) (.vf 223)))),
  (1342406212, 230, (.tf tapeEvalsE0_0 tapeEvalsE0_11 (.tf (.vb 2) (.vf 228) (.vf 224)))),
  (3069721091, 231, (.tf tapeEvalsE0_14 (.vf 160) (.tf tapeEvalsE0_15 tapeEvalsE0_3 (.vf 230)))),
  (3070721093, 232, (.tf tapeEvalsE0_14 (.vf 161) (.tf tapeEvalsE0_15 tapeEvalsE0_3 (.vf 229)))),
  (2157553473, 233, (.tf tapeEvalsE0_17 (.vf 160) (.tf tapeEvalsE0_18 tapeEvalsE0_3 (.vf 230)))),
  (2158553475, 234, (.tf tapeEvalsE0_17 (.vf 161) (.tf tapeEvalsE0_18 tapeEvalsE0_3 (.vf 229)))),
  (1151080186, 235, (.af 20 0 (.cf (.vf 231) (.cf (.vf 232) (.cf (.vf 233) (.cf (.vf 234) .n0)))))),
  (1152080189, 236, (.af 20 1 (.cf (.vf 231) (.cf (.vf 232) (.cf (.vf 233) (.cf (.vf 234) .n0)))))),
  (429701392, 237, (.af 21 0 (.cf (.vf 231) (.cf (.vf 232) (.cf (.vf 233) (.cf (.vf 234) .n0)))))),
  (430701395, 238, (.af 21 1 (.cf (.vf 231) (.cf (.vf 232) (.cf (.vf 233) (.cf (.vf 234) .n0)))))),
  (4003289889, 239, (.af 22 0 (.cf (.vf 231) (.cf (.vf 232) (.cf (.vf 233) (.cf (.vf 234) .n0)))))),
  (4004289892, 240, (.af 22 1 (.cf (.vf 231) (.cf (.vf 232) (.cf (.vf 233) (.cf (.vf 234) .n0)))))),
  (619321538, 241, (.tf tapeEvalsE0_20 (.vf 238) (.vf 240))),
  (618321534, 242, (.tf tapeEvalsE0_20 (.vf 237) (.vf 239))),
  (2060079121, 243, (.tf tapeEvalsE0_21 (.vf 236) (.vf 241))),
  (2059079119, 244, (.tf tapeEvalsE0_21 (.vf 235) (.vf 242))),
  (3281911095, 245, (.af 23 0 (.cf (.vf 231) (.cf (.vf 232) (.cf (.vf 233) (.cf (.vf 234) .n0)))))),
  (3282911098, 246, (.af 23 1 (.cf (.vf 231) (.cf (.vf 232) (.cf (.vf 233) (.cf (.vf 234) .n0)))))),
  (1117432587, 247, (.tf tapeEvalsE0_22 (.vf 246) (.vf 243))),
  (1116432585, 248, (.tf tapeEvalsE0_22 (.vf 245) (.vf 244))),
  (670077117, 249, (.tf tapeEvalsE0_12 tapeEvalsE0_23 (.tf (.vb 2) (.vf 247) (.vf 243)))),
  (671077121, 250, (.tf tapeEvalsE0_12 tapeEvalsE0_23 (.tf (.vb 2) (.vf 248) (.vf 244)))),
  (2794778460, 251, (.tf tapeEvalsE0_26 (.vf 160) (.tf tapeEvalsE0_27 tapeEvalsE0_3 (.tf tapeEvalsE0_28 (.vf 230) (.vf 250))))),
  (2794778459, 252, (.tf tapeEvalsE0_26 (.vf 161) (.tf tapeEvalsE0_27 tapeEvalsE0_3 (.tf tapeEvalsE0_28 (.vf 229) (.vf 249))))),
  (1426527033, 253, (.tf tapeEvalsE0_30 (.vf 160) (.tf tapeEvalsE0_31 tapeEvalsE0_3 (.tf tapeEvalsE0_32 (.vf 230) (.vf 250))))),
  (1426527032, 254, (.tf tapeEvalsE0_30 (.vf 161) (.tf tapeEvalsE0_31 tapeEvalsE0_3 (.tf tapeEvalsE0_32 (.vf 229) (.vf 249))))),
  (1231080426, 255, (.af 20 0 (.cf (.vf 251) (.cf (.vf 252) (.cf (.vf 253) (.cf (.vf 254) .n0)))))),
  (1232080429, 256, (.af 20 1 (.cf (.vf 251) (.cf (.vf 252) (.cf (.vf 253) (.cf (.vf 254) .n0)))))),
  (509701632, 257, (.af 21 0 (.cf (.vf 251) (.cf (.vf 252) (.cf (.vf 253) (.cf (.vf 254) .n0)))))),
  (510701635, 258, (.af 21 1 (.cf (.vf 251) (.cf (.vf 252) (.cf (.vf 253) (.cf (.vf 254) .n0)))))),
  (4083290129, 259, (.af 22 0 (.cf (.vf 251) (.cf (.vf 252) (.cf (.vf 253) (.cf (.vf 254) .n0)))))),
  (4084290132, 260, (.af 22 1 (.cf (.vf 251) (.cf (.vf 252) (.cf (.vf 253) (.cf (.vf 254) .n0)))))),
  (1289162679, 261, (.tf tapeEvalsE0_34 (.vf 258) (.vf 260))),
  (1288162675, 262, (.tf tapeEvalsE0_34 (.vf 257) (.vf 259))),
  (2729920262, 263, (.tf tapeEvalsE0_35 (.vf 256) (.vf 261))),
  (2728920260, 264, (.tf tapeEvalsE0_35 (.vf 255) (.vf 262))),
  (3361911335, 265, (.af 23 0 (.cf (.vf 251) (.cf (.vf 252) (.cf (.vf 253) (.cf (.vf 254) .n0)))))),
  (3362911338, 266, (.af 23 1 (.cf (.vf 251) (.cf (.vf 252) (.cf (.vf 253) (.cf (.vf 254) .n0)))))),
  (1787273728, 267, (.tf tapeEvalsE0_36 (.vf 266) (.vf 263))),
  (1786273726, 268, (.tf tapeEvalsE0_36 (.vf 265) (.vf 264))),
  (4293715317, 269, (.tf tapeEvalsE0_24 tapeEvalsE0_37 (.tf (.vb 2) (.vf 267) (.vf 263)))),
  (4294715321, 270, (.tf tapeEvalsE0_24 tapeEvalsE0_37 (.tf (.vb 2) (.vf 268) (.vf 264)))),
  (87981887, 271, (.tf tapeEvalsE0_40 (.vf 160) (.tf tapeEvalsE0_41 tapeEvalsE0_3 (.tf tapeEvalsE0_42 (.vf 230) (.tf tapeEvalsE0_43 (.vf 250) (.vf 270)))))),
  (86981883, 272, (.tf tapeEvalsE0_40 (.vf 161) (.tf tapeEvalsE0_41 tapeEvalsE0_3 (.tf tapeEvalsE0_42 (.vf 229) (.tf tapeEvalsE0_43 (.vf 249) (.vf 269)))))),
  (2558613942, 273, (.tf tapeEvalsE0_45 (.vf 160) (.tf tapeEvalsE0_46 tapeEvalsE0_3 (.tf tapeEvalsE0_47 (.vf 230) (.tf tapeEvalsE0_48 (.vf 250) (.vf 270)))))),
  (2557613938, 274, (.tf tapeEvalsE0_45 (.vf 161) (.tf tapeEvalsE0_46 tapeEvalsE0_3 (.tf tapeEvalsE0_47 (.vf 229) (.tf tapeEvalsE0_48 (.vf 249) (.vf 269)))))),
  (1311080666, 275, (.af 20 0 (.cf (.vf 271) (.cf (.vf 272) (.cf (.vf 273) (.cf (.vf 274) .n0)))))),
  (1312080669, 276, (.af 20 1 (.cf (.vf 271) (.cf (.vf 272) (.cf (.vf 273) (.cf (.vf 274) .n0)))))),
  (589701872, 277, (.af 21 0 (.cf (.vf 271) (.cf (.vf 272) (.cf (.vf 273) (.cf (.vf 274) .n0)))))),
  (590701875, 278, (.af 21 1 (.cf (.vf 271) (.cf (.vf 272) (.cf (.vf 273) (.cf (.vf 274) .n0)))))),
  (4163290369, 279, (.af 22 0 (.cf (.vf 271) (.cf (.vf 272) (.cf (.vf 273) (.cf (.vf 274) .n0)))))),
  (4164290372, 280, (.af 22 1 (.cf (.vf 271) (.cf (.vf 272) (.cf (.vf 273) (.cf (.vf 274) .n0)))))),
  (1959003820, 281, (.tf tapeEvalsE0_50 (.vf 278) (.vf 280))),
  (1958003816, 282, (.tf tapeEvalsE0_50 (.vf 277) (.vf 279))),
  (3399761403, 283, (.tf tapeEvalsE0_51 (.vf 276) (.vf 281))),
  (3398761401, 284, (.tf tapeEvalsE0_51 (.vf 275) (.vf 282))),
  (3441911575, 285, (.af 23 0 (.cf (.vf 271) (.cf (.vf 272) (.cf (.vf 273) (.cf (.vf 274) .n0)))))),
  (3442911578, 286, (.af 23 1 (.cf (.vf 271) (.cf (.vf 272) (.cf (.vf 273) (.cf (.vf 274) .n0)))))),
  (2457114869, 287, (.tf tapeEvalsE0_52 (.vf 286) (.vf 283))),
  (2456114867, 288, (.tf tapeEvalsE0_52 (.vf 285) (.vf 284))),
  (3622386226, 289, (.tf tapeEvalsE0_38 tapeEvalsE0_53 (.tf (.vb 2) (.vf 287) (.vf 283)))),
  (3623386230, 290, (.tf tapeEvalsE0_38 tapeEvalsE0_53 (.tf (.vb 2) (.vf 288) (.vf 284)))),
  (3539265954, 291, (.tf tapeEvalsE0_56 (.vf 160) (.tf tapeEvalsE0_57 tapeEvalsE0_3 (.tf tapeEvalsE0_58 (.vf 230) (.tf tapeEvalsE0_59 (.vf 250) (.tf tapeEvalsE0_60 (.vf 270) (.vf 290))))))),
  (3537265947, 292, (.tf tapeEvalsE0_56 (.vf 161) (.tf tapeEvalsE0_57 tapeEvalsE0_3 (.tf tapeEvalsE0_58 (.vf 229) (.tf tapeEvalsE0_59 (.vf 249) (.tf tapeEvalsE0_60 (.vf 269) (.vf 289))))))),
  (1258846909, 293, (.tf tapeEvalsE0_62 (.vf 160) (.tf tapeEvalsE0_63 tapeEvalsE0_3 (.tf tapeEvalsE0_64 (.vf 230) (.tf tapeEvalsE0_65 (.vf 250) (.tf tapeEvalsE0_66 (.vf 270) (.vf 290))))))),
  (1256846902, 294, (.tf tapeEvalsE0_62 (.vf 161) (.tf tapeEvalsE0_63 tapeEvalsE0_3 (.tf tapeEvalsE0_64 (.vf 229) (.tf tapeEvalsE0_65 (.vf 249) (.tf tapeEvalsE0_66 (.vf 269) (.vf 289))))))),
  (1391080906, 295, (.af 20 0 (.cf (.vf 291) (.cf (.vf 292) (.cf (.vf 293) (.cf (.vf 294) .n0)))))),
  (1392080909, 296, (.af 20 1 (.cf (.vf 291) (.cf (.vf 292) (.cf (.vf 293) (.cf (.vf 294) .n0)))))),
  (669702112, 297, (.af 21 0 (.cf (.vf 291) (.cf (.vf 292) (.cf (.vf 293) (.cf (.vf 294) .n0)))))),
  (670702115, 298, (.af 21 1 (.cf (.vf 291) (.cf (.vf 292) (.cf (.vf 293) (.cf (.vf 294) .n0)))))),
  (4243290609, 299, (.af 22 0 (.cf (.vf 291) (.cf (.vf 292) (.cf (.vf 293) (.cf (.vf 294) .n0)))))),
  (4244290612, 300, (.af 22 1 (.cf (.vf 291) (.cf (.vf 292) (.cf (.vf 293) (.cf (.vf 294) .n0)))))),
  (2628844961, 301, (.tf tapeEvalsE0_68 (.vf 298) (.vf 300))),
  (2627844957, 302, (.tf tapeEvalsE0_68 (.vf 297) (.vf 299))),
  (4069602544, 303, (.tf tapeEvalsE0_69 (.vf 296) (.vf 301))),
  (4068602542, 304, (.tf tapeEvalsE0_69 (.vf 295) (.vf 302))),
  (3521911815, 305, (.af 23 0 (.cf (.vf 291) (.cf (.vf 292) (.cf (.vf 293) (.cf (.vf 294) .n0)))))),
  (3522911818, 306, (.af 23 1 (.cf (.vf 291) (.cf (.vf 292) (.cf (.vf 293) (.cf (.vf 294) .n0)))))),
  (3126956010, 307, (.tf tapeEvalsE0_70 (.vf 306) (.vf 303))),
  (3125956008, 308, (.tf tapeEvalsE0_70 (.vf 305) (.vf 304))),
  (2951057135, 309, (.tf tapeEvalsE0_54 tapeEvalsE0_71 (.tf (.vb 2) (.vf 307) (.vf 303)))),
  (2952057139, 310, (.tf tapeEvalsE0_54 tapeEvalsE0_71 (.tf (.vb 2) (.vf 308) (.vf 304)))),
  (263728788, 311, (.tf tapeEvalsE0_74 (.vf 160) (.tf tapeEvalsE0_75 tapeEvalsE0_3 (.tf tapeEvalsE0_76 (.vf 230) (.tf tapeEvalsE0_77 (.vf 250) (.tf tapeEvalsE0_78 (.vf 270) (.tf tapeEvalsE0_79 (.vf 290) (.vf 310)))))))),
  (260728778, 312, (.tf tapeEvalsE0_74 (.vf 161) (.tf tapeEvalsE0_75 tapeEvalsE0_3 (.tf tapeEvalsE0_76 (.vf 229) (.tf tapeEvalsE0_77 (.vf 249) (.tf tapeEvalsE0_78 (.vf 269) (.tf tapeEvalsE0_79 (.vf 289) (.vf 309)))))))),
  (1822193225, 313, (.tf tapeEvalsE0_81 (.vf 160) (.tf tapeEvalsE0_82 tapeEvalsE0_3 (.tf tapeEvalsE0_83 (.vf 230) (.tf tapeEvalsE0_84 (.vf 250) (.tf tapeEvalsE0_85 (.vf 270) (.tf tapeEvalsE0_86 (.vf 290) (.vf 310)))))))),
  (1819193215, 314, (.tf tapeEvalsE0_81 (.vf 161) (.tf tapeEvalsE0_82 tapeEvalsE0_3 (.tf tapeEvalsE0_83 (.vf 229) (.tf tapeEvalsE0_84 (.vf 249) (.tf tapeEvalsE0_85 (.vf 269) (.tf tapeEvalsE0_86 (.vf 289) (.vf 309)))))))),
  (1471081146, 315, (.af 20 0 (.cf (.vf 311) (.cf (.vf 312) (.cf (.vf 313) (.cf (.vf 314) .n0)))))),
  (1472081149, 316, (.af 20 1 (.cf (.vf 311) (.cf (.vf 312) (.cf (.vf 313) (.cf (.vf 314) .n0)))))),
  (749702352, 317, (.af 21 0 (.cf (.vf 311) (.cf (.vf 312) (.cf (.vf 313) (.cf (.vf 314) .n0)))))),
  (750702355, 318, (.af 21 1 (.cf (.vf 311) (.cf (.vf 312) (.cf (.vf 313) (.cf (.vf 314) .n0)))))),
  (28323558, 319, (.af 22 0 (.cf (.vf 311) (.cf (.vf 312) (.cf (.vf 313) (.cf (.vf 314) .n0)))))),
  (29323561, 320, (.af 22 1 (.cf (.vf 311) (.cf (.vf 312) (.cf (.vf 313) (.cf (.vf 314) .n0)))))),
  (3298686102, 321, (.tf tapeEvalsE0_88 (.vf 318) (.vf 320))),
  (3297686098, 322, (.tf tapeEvalsE0_88 (.vf 317) (.vf 319))),
  (444476394, 323, (.tf tapeEvalsE0_89 (.vf 316) (.vf 321))),
  (443476392, 324, (.tf tapeEvalsE0_89 (.vf 315) (.vf 322))),
  (3601912055, 325, (.af 23 0 (.cf (.vf 311) (.cf (.vf 312) (.cf (.vf 313) (.cf (.vf 314) .n0)))))),
  (3602912058, 326, (.af 23 1 (.cf (.vf 311) (.cf (.vf 312) (.cf (.vf 313) (.cf (.vf 314) .n0)))))),
  (3796797151, 327, (.tf tapeEvalsE0_90 (.vf 326) (.vf 323))),
  (3795797149, 328, (.tf tapeEvalsE0_90 (.vf 325) (.vf 324))),
  (2279728044, 329, (.tf tapeEvalsE0_72 tapeEvalsE0_91 (.tf (.vb 2) (.vf 327) (.vf 323)))),
  (2280728048, 330, (.tf tapeEvalsE0_72 tapeEvalsE0_91 (.tf (.vb 2) (.vf 328) (.vf 324)))),
  (3146272262, 331, (.tf tapeEvalsE0_94 (.vf 160) (.tf tapeEvalsE0_95 tapeEvalsE0_3 (.tf tapeEvalsE0_96 (.vf 230) (.tf tapeEvalsE0_97 (.vf 250) (.tf tapeEvalsE0_98 (.vf 270) (.tf tapeEvalsE0_99 (.vf 290) (.tf tapeEvalsE0_100 (.vf 310) (.vf 330))))))))),
  (3142272249, 332, (.tf tapeEvalsE0_94 (.vf 161) (.tf tapeEvalsE0_95 tapeEvalsE0_3 (.tf tapeEvalsE0_96 (.vf 229) (.tf tapeEvalsE0_97 (.vf 249) (.tf tapeEvalsE0_98 (.vf 269) (.tf tapeEvalsE0_99 (.vf 289) (.tf tapeEvalsE0_100 (.vf 309) (.vf 329))))))))),
  (4248652890, 333, (.tf tapeEvalsE0_102 (.vf 160) (.tf tapeEvalsE0_103 tapeEvalsE0_3 (.tf tapeEvalsE0_104 (.vf 230) (.tf tapeEvalsE0_105 (.vf 250) (.tf tapeEvalsE0_106 (.vf 270) (.tf tapeEvalsE0_107 (.vf 290) (.tf tapeEvalsE0_108 (.vf 310) (.vf 330))))))))),
  (4244652877, 334, (.tf tapeEvalsE0_102 (.vf 161) (.tf tapeEvalsE0_103 tapeEvalsE0_3 (.tf tapeEvalsE0_104 (.vf 229) (.tf tapeEvalsE0_105 (.vf 249) (.tf tapeEvalsE0_106 (.vf 269) (.tf tapeEvalsE0_107 (.vf 289) (.tf tapeEvalsE0_108 (.vf 309) (.vf 329))))))))),
  (1551081386, 335, (.af 20 0 (.cf (.vf 331) (.cf (.vf 332) (.cf (.vf 333) (.cf (.vf 334) .n0)))))),
  (1552081389, 336, (.af 20 1 (.cf (.vf 331) (.cf (.vf 332) (.cf (.vf 333) (.cf (.vf 334) .n0)))))),
  (829702592, 337, (.af 21 0 (.cf (.vf 331) (.cf (.vf 332) (.cf (.vf 333) (.cf (.vf 334) .n0)))))),
  (830702595, 338, (.af 21 1 (.cf (.vf 331) (.cf (.vf 332) (.cf (.vf 333) (.cf (.vf 334) .n0)))))),
  (108323798, 339, (.af 22 0 (.cf (.vf 331) (.cf (.vf 332) (.cf (.vf 333) (.cf (.vf 334) .n0)))))),
  (109323801, 340, (.af 22 1 (.cf (.vf 331) (.cf (.vf 332) (.cf (.vf 333) (.cf (.vf 334) .n0)))))),
  (3968527243, 341, (.tf tapeEvalsE0_110 (.vf 338) (.vf 340))),
  (3967527239, 342, (.tf tapeEvalsE0_110 (.vf 337) (.vf 339))),
  (1114317535, 343, (.tf tapeEvalsE0_111 (.vf 336) (.vf 341))),
  (1113317533, 344, (.tf tapeEvalsE0_111 (.vf 335) (.vf 342))),
  (3681912295, 345, (.af 23 0 (.cf (.vf 331) (.cf (.vf 332) (.cf (.vf 333) (.cf (.vf 334) .n0)))))),
  (3682912298, 346, (.af 23 1 (.cf (.vf 331) (.cf (.vf 332) (.cf (.vf 333) (.cf (.vf 334) .n0)))))),
  (171671001, 347, (.tf tapeEvalsE0_112 (.vf 346) (.vf 343))),
  (170670999, 348, (.tf tapeEvalsE0_112 (.vf 345) (.vf 344))),
  (1608398953, 349, (.tf tapeEvalsE0_92 tapeEvalsE0_113 (.tf (.vb 2) (.vf 347) (.vf 343)))),
  (1609398957, 350, (.tf tapeEvalsE0_92 tapeEvalsE0_113 (.tf (.vb 2) (.vf 348) (.vf 344)))),
  (3596961794, 351, (.tf tapeEvalsE0_116 (.vf 160) (.tf tapeEvalsE0_117 tapeEvalsE0_3 (.tf tapeEvalsE0_118 (.vf 230) (.tf tapeEvalsE0_119 (.vf 250) (.tf tapeEvalsE0_120 (.vf 270) (.tf tapeEvalsE0_121 (.vf 290) (.tf tapeEvalsE0_122 (.vf 310) (.tf tapeEvalsE0_123 (.vf 330) (.vf 350)))))))))),
  (3591961778, 352, (.tf tapeEvalsE0_116 (.vf 161) (.tf tapeEvalsE0_117 tapeEvalsE0_3 (.tf tapeEvalsE0_118 (.vf 229) (.tf tapeEvalsE0_119 (.vf 249) (.tf tapeEvalsE0_120 (.vf 269) (.tf tapeEvalsE0_121 (.vf 289) (.tf tapeEvalsE0_122 (.vf 309) (.tf tapeEvalsE0_123 (.vf 329) (.vf 349)))))))))),
  (4243258613, 353, (.tf tapeEvalsE0_125 (.vf 160) (.tf tapeEvalsE0_126 tapeEvalsE0_3 (.tf tapeEvalsE0_127 (.vf 230) (.tf tapeEvalsE0_128 (.vf 250) (.tf tapeEvalsE0_129 (.vf 270) (.tf tapeEvalsE0_130 (.vf 290) (.tf tapeEvalsE0_131 (.vf 310) (.tf tapeEvalsE0_132 (.vf 330) (.vf 350)))))))))),
  (4238258597, 354, (.tf tapeEvalsE0_125 (.vf 161) (.tf tapeEvalsE0_126 tapeEvalsE0_3 (.tf tapeEvalsE0_127 (.vf 229) (.tf tapeEvalsE0_128 (.vf 249) (.tf tapeEvalsE0_129 (.vf 269) (.tf tapeEvalsE0_130 (.vf 289) (.tf tapeEvalsE0_131 (.vf 309) (.tf tapeEvalsE0_132 (.vf 329) (.vf 349)))))))))),
  (1631081626, 355, (.af 20 0 (.cf (.vf 351) (.cf (.vf 352) (.cf (.vf 353) (.cf (.vf 354) .n0)))))),
  (1632081629, 356, (.af 20 1 (.cf (.vf 351) (.cf (.vf 352) (.cf (.vf 353) (.cf (.vf 354) .n0)))))),
  (909702832, 357, (.af 21 0 (.cf (.vf 351) (.cf (.vf 352) (.cf (.vf 353) (.cf (.vf 354) .n0)))))),
  (910702835, 358, (.af 21 1 (.cf (.vf 351) (.cf (.vf 352) (.cf (.vf 353) (.cf (.vf 354) .n0)))))),
  (188324038, 359, (.af 22 0 (.cf (.vf 351) (.cf (.vf 352) (.cf (.vf 353) (.cf (.vf 354) .n0)))))),
  (189324041, 360, (.af 22 1 (.cf (.vf 351) (.cf (.vf 352) (.cf (.vf 353) (.cf (.vf 354) .n0)))))),
  (343401093, 361, (.tf tapeEvalsE0_134 (.vf 358) (.vf 360))),
  (342401089, 362, (.tf tapeEvalsE0_134 (.vf 357) (.vf 359))),
  (1784158676, 363, (.tf tapeEvalsE0_135 (.vf 356) (.vf 361))),
  (1783158674, 364, (.tf tapeEvalsE0_135 (.vf 355) (.vf 362))),
  (3761912535, 365, (.af 23 0 (.cf (.vf 351) (.cf (.vf 352) (.cf (.vf 353) (.cf (.vf 354) .n0)))))),
  (3762912538, 366, (.af 23 1 (.cf (.vf 351) (.cf (.vf 352) (.cf (.vf 353) (.cf (.vf 354) .n0)))))),
  (841512142, 367, (.tf tapeEvalsE0_136 (.vf 366) (.vf 363))),
  (840512140, 368, (.tf tapeEvalsE0_136 (.vf 365) (.vf 364))),
  (937069862, 369, (.tf tapeEvalsE0_114 tapeEvalsE0_137 (.tf (.vb 2) (.vf 367) (.vf 363)))),
  (938069866, 370, (.tf tapeEvalsE0_114 tapeEvalsE0_137 (.tf (.vb 2) (.vf 368) (.vf 364)))),
  (2333684726, 371, (.tf tapeEvalsE0_141 (.vf 330) (.tf tapeEvalsE0_142 (.vf 350) (.vf 370)))),
  (2331684719, 372, (.tf tapeEvalsE0_141 (.vf 329) (.tf tapeEvalsE0_142 (.vf 349) (.vf 369)))),
  (1516373184, 373, (.tf tapeEvalsE0_145 (.vf 131) (.tf tapeEvalsE0_146 (.vf 137) (.vf 143)))),
  (1636373604, 374, (.tf tapeEvalsE0_145 (.vf 191) (.tf tapeEvalsE0_146 (.vf 197) (.vf 203)))),
  (1888374507, 375, (.tf tapeEvalsE0_145 (.vf 310) (.tf tapeEvalsE0_146 (.vf 330) (.vf 350)))),
  (1886374500, 376, (.tf tapeEvalsE0_145 (.vf 309) (.tf tapeEvalsE0_146 (.vf 329) (.vf 349)))),
  (1099063063, 377, (.tf tapeEvalsE0_148 (.vf 125) (.tf tapeEvalsE0_149 (.vf 131) (.vf 137)))),
  (1219063483, 378, (.tf tapeEvalsE0_148 (.vf 185) (.tf tapeEvalsE0_149 (.vf 191) (.vf 197)))),
  (1443064288, 379, (.tf tapeEvalsE0_148 (.vf 290) (.tf tapeEvalsE0_149 (.vf 310) (.vf 330)))),
  (1441064281, 380, (.tf tapeEvalsE0_148 (.vf 289) (.tf tapeEvalsE0_149 (.vf 309) (.vf 329)))),
  (681752942, 381, (.tf tapeEvalsE0_151 (.vf 119) (.tf tapeEvalsE0_152 (.vf 125) (.vf 131)))),
  (801753362, 382, (.tf tapeEvalsE0_151 (.vf 179) (.tf tapeEvalsE0_152 (.vf 185) (.vf 191)))),
  (997754069, 383, (.tf tapeEvalsE0_151 (.vf 270) (.tf tapeEvalsE0_152 (.vf 290) (.vf 310)))),
  (995754062, 384, (.tf tapeEvalsE0_151 (.vf 269) (.tf tapeEvalsE0_152 (.vf 289) (.vf 309)))),
  (264442821, 385, (.tf tapeEvalsE0_154 (.vf 113) (.tf tapeEvalsE0_155 (.vf 119) (.vf 125)))),
  (384443241, 386, (.tf tapeEvalsE0_154 (.vf 173) (.tf tapeEvalsE0_155 (.vf 179) (.vf 185)))),
  (552443850, 387, (.tf tapeEvalsE0_154 (.vf 250) (.tf tapeEvalsE0_155 (.vf 270) (.vf 290)))),
  (550443843, 388, (.tf tapeEvalsE0_154 (.vf 249) (.tf tapeEvalsE0_155 (.vf 269) (.vf 289)))),
  (4142099991, 389, (.tf tapeEvalsE0_157 (.vf 107) (.tf tapeEvalsE0_158 (.vf 113) (.vf 119)))),
  (4262100411, 390, (.tf tapeEvalsE0_157 (.vf 167) (.tf tapeEvalsE0_158 (.vf 173) (.vf 179)))),
  (107133631, 391, (.tf tapeEvalsE0_157 (.vf 230) (.tf tapeEvalsE0_158 (.vf 250) (.vf 270)))),
  (105133624, 392, (.tf tapeEvalsE0_157 (.vf 229) (.tf tapeEvalsE0_158 (.vf 249) (.vf 269)))),
  (185834618, 393, (.tf tapeEvalsE0_160 tapeEvalsE0_3 (.tf tapeEvalsE0_161 (.vf 107) (.vf 113)))),
  (245834858, 394, (.tf tapeEvalsE0_160 tapeEvalsE0_3 (.tf tapeEvalsE0_161 (.vf 167) (.vf 173)))),
  (308835124, 395, (.tf tapeEvalsE0_160 tapeEvalsE0_3 (.tf tapeEvalsE0_161 (.vf 230) (.vf 250)))),
  (307835120, 396, (.tf tapeEvalsE0_160 tapeEvalsE0_3 (.tf tapeEvalsE0_161 (.vf 229) (.vf 249)))),
  (3472888278, 397, (.tf tapeEvalsE0_163 tapeEvalsE0_2 (.tf tapeEvalsE0_164 tapeEvalsE0_3 (.vf 107)))),
  (1751977773, 398, (.tf tapeEvalsE0_163 (.vf 159) (.tf tapeEvalsE0_164 tapeEvalsE0_3 (.vf 167)))),
  (1752977839, 399, (.tf tapeEvalsE0_163 (.vf 160) (.tf tapeEvalsE0_164 tapeEvalsE0_3 (.vf 230)))),
  (1753977841, 400, (.tf tapeEvalsE0_163 (.vf 161) (.tf tapeEvalsE0_164 tapeEvalsE0_3 (.vf 229)))),
  (2186465886, 401, (.tf tapeEvalsE0_165 (.vf 159) tapeEvalsE0_3)),
  (2187465889, 402, (.tf tapeEvalsE0_165 (.vf 160) tapeEvalsE0_3)),
  (2188465892, 403, (.tf tapeEvalsE0_165 (.vf 161) tapeEvalsE0_3))]
set_option maxRecDepth 1000000 in
set_option maxHeartbeats 100000000 in
theorem tapeEvalsGood0 : tabGood 100 tapeEvalsNms0 = true := by kernel_rfl
end Go.Proofs.Yticbgaflhiokgaa
