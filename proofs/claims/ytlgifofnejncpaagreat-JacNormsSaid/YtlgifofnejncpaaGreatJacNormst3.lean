/-
  'JacNorms': what names stand for, where the first rest is 3.
-/
import Derived.Test.YtlgifofnejncpaaGreatM4j
namespace Go.Proofs.YtlgifofnejncpaaGreat
open Go.RowKit Ex
def jacNormsE3_0 : E := (.ti (.ic .lss (.li 0) (.vl 0)) (.at 0 0) (.li 0))
def jacNormsE3_1 : E := (.ti (.ic .lss (.li 1) (.vl 0)) (.at 0 1) (.li 1))
def jacNormsE3_2 : E := (.ti (.ic .lss (.li 2) (.vl 0)) (.at 0 2) (.li 2))
def jacNormsE3_3 : E := (.ti (.ic .lss (.li 3) (.vl 0)) (.at 0 3) (.li 3))
def jacNormsE3_4 : E := (.ti (.ic .lss (.li 4) (.vl 0)) (.at 0 4) (.li 1))
def jacNormsE3_5 : E := (.ti (.ic .lss (.li 5) (.vl 0)) (.at 0 5) (.li 2))
def jacNormsE3_6 : E := (.ti (.ic .lss (.li 6) (.vl 0)) (.at 0 6) (.li 3))
def jacNormsE3_7 : E := (.ti (.ic .lss (.li 7) (.vl 0)) (.at 0 7) (.li 4))
def jacNormsE3_8 : E := (.ti (.ic .lss (.li 8) (.vl 0)) (.at 0 8) (.li 2))
def jacNormsE3_9 : E := (.ti (.ic .lss (.li 9) (.vl 0)) (.at 0 9) (.li 3))
def jacNormsE3_10 : E := (.ti (.ic .lss (.li 10) (.vl 0)) (.at 0 10) (.li 4))
def jacNormsE3_11 : E := (.ti (.ic .lss (.li 11) (.vl 0)) (.at 0 11) (.li 5))
def jacNormsE3_12 : E := (.ti (.ic .lss (.li 12) (.vl 0)) (.at 0 12) (.li 3))
def jacNormsE3_13 : E := (.ti (.ic .lss (.li 13) (.vl 0)) (.at 0 13) (.li 4))
def jacNormsE3_14 : E := (.ti (.ic .lss (.li 14) (.vl 0)) (.at 0 14) (.li 5))
def jacNormsE3_15 : E := (.ti (.ic .lss (.li 15) (.vl 0)) (.at 0 15) (.li 6))
def jacNormsE3_16 : E := (.af 31 0 (.ci (.vi 3) .n0))
def jacNormsE3_17 : E := (.fc .leq jacNormsE3_16 (.vf 156))
def jacNormsNms3 : Nms := [(3571380142, 100, (.af 30 0 (.ci jacNormsE3_0 (.ci (.vi 2) (.ci (.ib .quo .i64 jacNormsE3_0 (.li 7)) .n0))))),
  (3572380145, 101, (.af 30 1 (.ci jacNormsE3_0 (.ci (.vi 2) (.ci (.ib .quo .i64 jacNormsE3_0 (.li 7)) .n0))))),
  (3311004595, 102, (.af 30 0 (.ci jacNormsE3_1 (.ci (.vi 2) (.ci (.ib .quo .i64 jacNormsE3_1 (.li 7)) .n0))))),
  (3312004598, 103, (.af 30 1 (.ci jacNormsE3_1 (.ci (.vi 2) (.ci (.ib .quo .i64 jacNormsE3_1 (.li 7)) .n0))))),
  (3050629048, 104, (.af 30 0 (.ci jacNormsE3_2 (.ci (.vi 2) (.ci (.ib .quo .i64 jacNormsE3_2 (.li 7)) .n0))))),
  (3051629051, 105, (.af 30 1 (.ci jacNormsE3_2 (.ci (.vi 2) (.ci (.ib .quo .i64 jacNormsE3_2 (.li 7)) .n0))))),
  (2790253501, 106, (.af 30 0 (.ci jacNormsE3_3 (.ci (.vi 2) (.ci (.ib .quo .i64 jacNormsE3_3 (.li 7)) .n0))))),
  (2791253504, 107, (.af 30 1 (.ci jacNormsE3_3 (.ci (.vi 2) (.ci (.ib .quo .i64 jacNormsE3_3 (.li 7)) .n0))))),
  (2557183409, 108, (.af 30 0 (.ci jacNormsE3_4 (.ci (.vi 2) (.ci (.ib .quo .i64 jacNormsE3_4 (.li 7)) .n0))))),
  (2558183412, 109, (.af 30 1 (.ci jacNormsE3_4 (.ci (.vi 2) (.ci (.ib .quo .i64 jacNormsE3_4 (.li 7)) .n0))))),
  (2296807862, 110, (.af 30 0 (.ci jacNormsE3_5 (.ci (.vi 2) (.ci (.ib .quo .i64 jacNormsE3_5 (.li 7)) .n0))))),
  (2297807865, 111, (.af 30 1 (.ci jacNormsE3_5 (.ci (.vi 2) (.ci (.ib .quo .i64 jacNormsE3_5 (.li 7)) .n0))))),
  (2036432315, 112, (.af 30 0 (.ci jacNormsE3_6 (.ci (.vi 2) (.ci (.ib .quo .i64 jacNormsE3_6 (.li 7)) .n0))))),
  (2037432318, 113, (.af 30 1 (.ci jacNormsE3_6 (.ci (.vi 2) (.ci (.ib .quo .i64 jacNormsE3_6 (.li 7)) .n0))))),
  (1776056768, 114, (.af 30 0 (.ci jacNormsE3_7 (.ci (.vi 2) (.ci (.ib .quo .i64 jacNormsE3_7 (.li 7)) .n0))))),
  (1777056771, 115, (.af 30 1 (.ci jacNormsE3_7 (.ci (.vi 2) (.ci (.ib .quo .i64 jacNormsE3_7 (.li 7)) .n0))))),
  (1542986676, 116, (.af 30 0 (.ci jacNormsE3_8 (.ci (.vi 2) (.ci (.ib .quo .i64 jacNormsE3_8 (.li 7)) .n0))))),
  (1543986679, 117, (.af 30 1 (.ci jacNormsE3_8 (.ci (.vi 2) (.ci (.ib .quo .i64 jacNormsE3_8 (.li 7)) .n0))))),
  (1282611129, 118, (.af 30 0 (.ci jacNormsE3_9 (.ci (.vi 2) (.ci (.ib .quo .i64 jacNormsE3_9 (.li 7)) .n0))))),
  (1283611132, 119, (.af 30 1 (.ci jacNormsE3_9 (.ci (.vi 2) (.ci (.ib .quo .i64 jacNormsE3_9 (.li 7)) .n0))))),
  (1022235582, 120, (.af 30 0 (.ci jacNormsE3_10 (.ci (.vi 2) (.ci (.ib .quo .i64 jacNormsE3_10 (.li 7)) .n0))))),
  (1023235585, 121, (.af 30 1 (.ci jacNormsE3_10 (.ci (.vi 2) (.ci (.ib .quo .i64 jacNormsE3_10 (.li 7)) .n0))))),
  (761860035, 122, (.af 30 0 (.ci jacNormsE3_11 (.ci (.vi 2) (.ci (.ib .quo .i64 jacNormsE3_11 (.li 7)) .n0))))),
  (762860038, 123, (.af 30 1 (.ci jacNormsE3_11 (.ci (.vi 2) (.ci (.ib .quo .i64 jacNormsE3_11 (.li 7)) .n0))))),
  (528789943, 124, (.af 30 0 (.ci jacNormsE3_12 (.ci (.vi 2) (.ci (.ib .quo .i64 jacNormsE3_12 (.li 7)) .n0))))),
  (529789946, 125, (.af 30 1 (.ci jacNormsE3_12 (.ci (.vi 2) (.ci (.ib .quo .i64 jacNormsE3_12 (.li 7)) .n0))))),
  (268414396, 126, (.af 30 0 (.ci jacNormsE3_13 (.ci (.vi 2) (.ci (.ib .quo .i64 jacNormsE3_13 (.li 7)) .n0))))),
  (269414399, 127, (.af 30 1 (.ci jacNormsE3_13 (.ci (.vi 2) (.ci (.ib .quo .i64 jacNormsE3_13 (.li 7)) .n0))))),
  (8038849, 128, (.af 30 0 (.ci jacNormsE3_14 (.ci (.vi 2) (.ci (.ib .quo .i64 jacNormsE3_14 (.li 7)) .n0))))),
  (9038852, 129, (.af 30 1 (.ci jacNormsE3_14 (.ci (.vi 2) (.ci (.ib .quo .i64 jacNormsE3_14 (.li 7)) .n0))))),
  (4042630593, 130, (.af 30 0 (.ci jacNormsE3_15 (.ci (.vi 2) (.ci (.ib .quo .i64 jacNormsE3_15 (.li 7)) .n0))))),
  (4043630596, 131, (.af 30 1 (.ci jacNormsE3_15 (.ci (.vi 2) (.ci (.ib .quo .i64 jacNormsE3_15 (.li 7)) .n0))))),
  (1780260792, 132, (.af 33 0 (.cf (.vf 102) (.cf (.vf 103) .n0)))),
  (1327917736, 133, (.af 11 0 (.cf (.fb .add (.vf 101) (.vf 132)) .n0))),
  (1784260804, 134, (.af 33 0 (.cf (.vf 104) (.cf (.vf 105) .n0)))),
  (4015600080, 135, (.af 11 0 (.cf (.fb .add (.vf 133) (.vf 134)) .n0))),
  (1788260816, 136, (.af 33 0 (.cf (.vf 106) (.cf (.vf 107) .n0)))),
  (2574842498, 137, (.af 11 0 (.cf (.fb .add (.vf 135) (.vf 136)) .n0))),
  (1792260828, 138, (.af 33 0 (.cf (.vf 108) (.cf (.vf 109) .n0)))),
  (2710064396, 139, (.af 11 0 (.cf (.fb .add (.vf 111) (.vf 138)) .n0))),
  (1800260852, 140, (.af 33 0 (.cf (.vf 112) (.cf (.vf 113) .n0)))),
  (3988294625, 141, (.af 11 0 (.cf (.fb .add (.vf 139) (.vf 140)) .n0))),
  (1804260864, 142, (.af 33 0 (.cf (.vf 114) (.cf (.vf 115) .n0)))),
  (2547537043, 143, (.af 11 0 (.cf (.fb .add (.vf 141) (.vf 142)) .n0))),
  (1808260876, 144, (.af 33 0 (.cf (.vf 116) (.cf (.vf 117) .n0)))),
  (4092211056, 145, (.af 11 0 (.cf (.fb .add (.vf 121) (.vf 144)) .n0))),
  (1812260888, 146, (.af 33 0 (.cf (.vf 118) (.cf (.vf 119) .n0)))),
  (3960989170, 147, (.af 11 0 (.cf (.fb .add (.vf 145) (.vf 146)) .n0))),
  (1820260912, 148, (.af 33 0 (.cf (.vf 122) (.cf (.vf 123) .n0)))),
  (2520231588, 149, (.af 11 0 (.cf (.fb .add (.vf 147) (.vf 148)) .n0))),
  (1824260924, 150, (.af 33 0 (.cf (.vf 124) (.cf (.vf 125) .n0)))),
  (1179390425, 151, (.af 11 0 (.cf (.fb .add (.vf 131) (.vf 150)) .n0))),
  (1828260936, 152, (.af 33 0 (.cf (.vf 126) (.cf (.vf 127) .n0)))),
  (3933683715, 153, (.af 11 0 (.cf (.fb .add (.vf 151) (.vf 152)) .n0))),
  (1832260948, 154, (.af 33 0 (.cf (.vf 128) (.cf (.vf 129) .n0)))),
  (2492926133, 155, (.af 11 0 (.cf (.fb .add (.vf 153) (.vf 154)) .n0))),
  (3822168479, 156, (.af 31 0 (.ci (.ib .quo .i64 (.vi 3) (.li 10)) .n0))),
  (1401249006, 157, (.af 33 0 (.cf (.tf jacNormsE3_17 jacNormsE3_16 (.vf 124)) (.cf (.tf jacNormsE3_17 (.vf 156) (.vf 125)) .n0)))),
  (1186390446, 158, (.af 11 0 (.cf (.fb .add (.vf 131) (.vf 157)) .n0))),
  (3178999448, 159, (.af 11 0 (.cf (.fb .add (.vf 158) (.vf 152)) .n0))),
  (2459620660, 160, (.af 11 0 (.cf (.fb .add (.vf 159) (.vf 154)) .n0)))]
set_option maxRecDepth 1000000 in
set_option maxHeartbeats 100000000 in
theorem jacNormsGood3 : tabGood 100 jacNormsNms3 = true := by kernel_rfl
def jacNorms_3_xe0 : E := (.tf (.fc .lss (.vf 137) (.vf 143)) (.vf 143) (.vf 137))
def jacNorms_3_xe1 : E := (.fc .lss jacNorms_3_xe0 (.vf 149))
def jacNorms_3_xs : Spl := (.node (.fc .eql (.vf 137) (.vf 137)) (.node (.fc .eql (.vf 143) (.vf 143)) (.node (.fc .eql (.vf 149) (.vf 149)) (.node (.fc .eql (.vf 160) (.vf 160)) (.node (.fc .lss (.tf jacNorms_3_xe1 (.vf 149) jacNorms_3_xe0) (.vf 160)) .leaf (.node (.fc .lss jacNorms_3_xe0 (.vf 149)) .leaf (.node (.fc .lss jacNorms_3_xe0 (.vf 160)) .leaf .leaf))) .leaf) .leaf) .leaf) .leaf)
end Go.Proofs.YtlgifofnejncpaaGreat
