/-
  'JacNorms': what names stand for, where the first rest is 1.
-/
import Derived.Test.YtlgifofnejncpaaGreatM4j
namespace Go.Proofs.YtlgifofnejncpaaGreat
open Go.RowKit Ex
def jacNormsE1_0 : E := (.ti (.ic .lss (.li 0) (.vl 0)) (.at 0 0) (.li 0))
def jacNormsE1_1 : E := (.ti (.ic .lss (.li 1) (.vl 0)) (.at 0 1) (.li 1))
def jacNormsE1_2 : E := (.ti (.ic .lss (.li 2) (.vl 0)) (.at 0 2) (.li 1))
def jacNormsE1_3 : E := (.ti (.ic .lss (.li 3) (.vl 0)) (.at 0 3) (.li 2))
def jacNormsE1_4 : E := (.af 31 0 (.ci (.vi 3) .n0))
def jacNormsE1_5 : E := (.fc .leq jacNormsE1_4 (.vf 112))
def jacNormsNms1 : Nms := [(3571380142, 100, (.af 30 0 (.ci jacNormsE1_0 (.ci (.vi 2) (.ci (.ib .quo .i64 jacNormsE1_0 (.li 7)) .n0))))),
  (3572380145, 101, (.af 30 1 (.ci jacNormsE1_0 (.ci (.vi 2) (.ci (.ib .quo .i64 jacNormsE1_0 (.li 7)) .n0))))),
  (3311004595, 102, (.af 30 0 (.ci jacNormsE1_1 (.ci (.vi 2) (.ci (.ib .quo .i64 jacNormsE1_1 (.li 7)) .n0))))),
  (3312004598, 103, (.af 30 1 (.ci jacNormsE1_1 (.ci (.vi 2) (.ci (.ib .quo .i64 jacNormsE1_1 (.li 7)) .n0))))),
  (196419339, 104, (.af 30 0 (.ci jacNormsE1_2 (.ci (.vi 2) (.ci (.ib .quo .i64 jacNormsE1_2 (.li 7)) .n0))))),
  (197419342, 105, (.af 30 1 (.ci jacNormsE1_2 (.ci (.vi 2) (.ci (.ib .quo .i64 jacNormsE1_2 (.li 7)) .n0))))),
  (4231011083, 106, (.af 30 0 (.ci jacNormsE1_3 (.ci (.vi 2) (.ci (.ib .quo .i64 jacNormsE1_3 (.li 7)) .n0))))),
  (4232011086, 107, (.af 30 1 (.ci jacNormsE1_3 (.ci (.vi 2) (.ci (.ib .quo .i64 jacNormsE1_3 (.li 7)) .n0))))),
  (1780260792, 108, (.af 33 0 (.cf (.vf 102) (.cf (.vf 103) .n0)))),
  (1303917664, 109, (.af 11 0 (.cf (.fb .add (.vf 101) (.vf 108)) .n0))),
  (1784260804, 110, (.af 33 0 (.cf (.vf 104) (.cf (.vf 105) .n0)))),
  (1272612197, 111, (.af 11 0 (.cf (.fb .add (.vf 107) (.vf 110)) .n0))),
  (3822168479, 112, (.af 31 0 (.ci (.ib .quo .i64 (.vi 3) (.li 10)) .n0))),
  (3826689197, 113, (.af 33 0 (.cf (.tf jacNormsE1_5 jacNormsE1_4 (.vf 104)) (.cf (.tf jacNormsE1_5 (.vf 112) (.vf 105)) .n0)))),
  (1275612206, 114, (.af 11 0 (.cf (.fb .add (.vf 107) (.vf 113)) .n0)))]
set_option maxRecDepth 1000000 in
set_option maxHeartbeats 100000000 in
theorem jacNormsGood1 : tabGood 100 jacNormsNms1 = true := by kernel_rfl
def jacNorms_1_xs : Spl := .leaf
end Go.Proofs.YtlgifofnejncpaaGreat
