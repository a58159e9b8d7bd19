/-
  'JacNorms': what names stand for, where the first rest is 2.
-/
import Derived.Test.YtlgifofnejncpaaGreatM4j
namespace Go.Proofs.YtlgifofnejncpaaGreat
open Go.RowKit Ex
def jacNormsE2_0 : E := (.ti (.ic .lss (.li 0) (.vl 0)) (.at 0 0) (.li 0))
def jacNormsE2_1 : E := (.ti (.ic .lss (.li 1) (.vl 0)) (.at 0 1) (.li 1))
def jacNormsE2_2 : E := (.ti (.ic .lss (.li 2) (.vl 0)) (.at 0 2) (.li 2))
def jacNormsE2_3 : E := (.ti (.ic .lss (.li 3) (.vl 0)) (.at 0 3) (.li 1))
def jacNormsE2_4 : E := (.ti (.ic .lss (.li 4) (.vl 0)) (.at 0 4) (.li 2))
def jacNormsE2_5 : E := (.ti (.ic .lss (.li 5) (.vl 0)) (.at 0 5) (.li 3))
def jacNormsE2_6 : E := (.ti (.ic .lss (.li 6) (.vl 0)) (.at 0 6) (.li 2))
def jacNormsE2_7 : E := (.ti (.ic .lss (.li 7) (.vl 0)) (.at 0 7) (.li 3))
def jacNormsE2_8 : E := (.ti (.ic .lss (.li 8) (.vl 0)) (.at 0 8) (.li 4))
def jacNormsE2_9 : E := (.af 31 0 (.ci (.vi 3) .n0))
def jacNormsE2_10 : E := (.fc .leq jacNormsE2_9 (.vf 130))
def jacNormsNms2 : Nms := [(3571380142, 100, (.af 30 0 (.ci jacNormsE2_0 (.ci (.vi 2) (.ci (.ib .quo .i64 jacNormsE2_0 (.li 7)) .n0))))),
  (3572380145, 101, (.af 30 1 (.ci jacNormsE2_0 (.ci (.vi 2) (.ci (.ib .quo .i64 jacNormsE2_0 (.li 7)) .n0))))),
  (3311004595, 102, (.af 30 0 (.ci jacNormsE2_1 (.ci (.vi 2) (.ci (.ib .quo .i64 jacNormsE2_1 (.li 7)) .n0))))),
  (3312004598, 103, (.af 30 1 (.ci jacNormsE2_1 (.ci (.vi 2) (.ci (.ib .quo .i64 jacNormsE2_1 (.li 7)) .n0))))),
  (3050629048, 104, (.af 30 0 (.ci jacNormsE2_2 (.ci (.vi 2) (.ci (.ib .quo .i64 jacNormsE2_2 (.li 7)) .n0))))),
  (3051629051, 105, (.af 30 1 (.ci jacNormsE2_2 (.ci (.vi 2) (.ci (.ib .quo .i64 jacNormsE2_2 (.li 7)) .n0))))),
  (1376801374, 106, (.af 30 0 (.ci jacNormsE2_3 (.ci (.vi 2) (.ci (.ib .quo .i64 jacNormsE2_3 (.li 7)) .n0))))),
  (1377801377, 107, (.af 30 1 (.ci jacNormsE2_3 (.ci (.vi 2) (.ci (.ib .quo .i64 jacNormsE2_3 (.li 7)) .n0))))),
  (1116425827, 108, (.af 30 0 (.ci jacNormsE2_4 (.ci (.vi 2) (.ci (.ib .quo .i64 jacNormsE2_4 (.li 7)) .n0))))),
  (1117425830, 109, (.af 30 1 (.ci jacNormsE2_4 (.ci (.vi 2) (.ci (.ib .quo .i64 jacNormsE2_4 (.li 7)) .n0))))),
  (856050280, 110, (.af 30 0 (.ci jacNormsE2_5 (.ci (.vi 2) (.ci (.ib .quo .i64 jacNormsE2_5 (.li 7)) .n0))))),
  (857050283, 111, (.af 30 1 (.ci jacNormsE2_5 (.ci (.vi 2) (.ci (.ib .quo .i64 jacNormsE2_5 (.li 7)) .n0))))),
  (3477189897, 112, (.af 30 0 (.ci jacNormsE2_6 (.ci (.vi 2) (.ci (.ib .quo .i64 jacNormsE2_6 (.li 7)) .n0))))),
  (3478189900, 113, (.af 30 1 (.ci jacNormsE2_6 (.ci (.vi 2) (.ci (.ib .quo .i64 jacNormsE2_6 (.li 7)) .n0))))),
  (3216814350, 114, (.af 30 0 (.ci jacNormsE2_7 (.ci (.vi 2) (.ci (.ib .quo .i64 jacNormsE2_7 (.li 7)) .n0))))),
  (3217814353, 115, (.af 30 1 (.ci jacNormsE2_7 (.ci (.vi 2) (.ci (.ib .quo .i64 jacNormsE2_7 (.li 7)) .n0))))),
  (2956438803, 116, (.af 30 0 (.ci jacNormsE2_8 (.ci (.vi 2) (.ci (.ib .quo .i64 jacNormsE2_8 (.li 7)) .n0))))),
  (2957438806, 117, (.af 30 1 (.ci jacNormsE2_8 (.ci (.vi 2) (.ci (.ib .quo .i64 jacNormsE2_8 (.li 7)) .n0))))),
  (1780260792, 118, (.af 33 0 (.cf (.vf 102) (.cf (.vf 103) .n0)))),
  (1313917694, 119, (.af 11 0 (.cf (.fb .add (.vf 101) (.vf 118)) .n0))),
  (1784260804, 120, (.af 33 0 (.cf (.vf 104) (.cf (.vf 105) .n0)))),
  (1216001281, 121, (.af 11 0 (.cf (.fb .add (.vf 119) (.vf 120)) .n0))),
  (1788260816, 122, (.af 33 0 (.cf (.vf 106) (.cf (.vf 107) .n0)))),
  (4136821936, 123, (.af 11 0 (.cf (.fb .add (.vf 109) (.vf 122)) .n0))),
  (1796260840, 124, (.af 33 0 (.cf (.vf 110) (.cf (.vf 111) .n0)))),
  (2629453408, 125, (.af 11 0 (.cf (.fb .add (.vf 123) (.vf 124)) .n0))),
  (1800260852, 126, (.af 33 0 (.cf (.vf 112) (.cf (.vf 113) .n0)))),
  (2664758887, 127, (.af 11 0 (.cf (.fb .add (.vf 117) (.vf 126)) .n0))),
  (1804260864, 128, (.af 33 0 (.cf (.vf 114) (.cf (.vf 115) .n0)))),
  (4042905535, 129, (.af 11 0 (.cf (.fb .add (.vf 127) (.vf 128)) .n0))),
  (3822168479, 130, (.af 31 0 (.ci (.ib .quo .i64 (.vi 3) (.li 10)) .n0))),
  (2248422669, 131, (.af 33 0 (.cf (.tf jacNormsE2_10 jacNormsE2_9 (.vf 112)) (.cf (.tf jacNormsE2_10 (.vf 130) (.vf 113)) .n0)))),
  (2669758902, 132, (.af 11 0 (.cf (.fb .add (.vf 117) (.vf 131)) .n0))),
  (436011565, 133, (.af 11 0 (.cf (.fb .add (.vf 132) (.vf 128)) .n0)))]
set_option maxRecDepth 1000000 in
set_option maxHeartbeats 100000000 in
theorem jacNormsGood2 : tabGood 100 jacNormsNms2 = true := by kernel_rfl
def jacNorms_2_xs : Spl := .leaf
end Go.Proofs.YtlgifofnejncpaaGreat
