/-
  'JacNorms': what names stand for, where the first rest is 0.
-/
import Derived.Test.YtlgifofnejncpaaGreatM4j
namespace Go.Proofs.YtlgifofnejncpaaGreat
open Go.RowKit Ex
def jacNormsE0_0 : E := (.ti (.ic .lss (.li 0) (.vl 0)) (.at 0 0) (.li 0))
def jacNormsNms0 : Nms := [(3571380142, 100, (.af 30 0 (.ci jacNormsE0_0 (.ci (.vi 2) (.ci (.ib .quo .i64 jacNormsE0_0 (.li 7)) .n0))))),
  (3572380145, 101, (.af 30 1 (.ci jacNormsE0_0 (.ci (.vi 2) (.ci (.ib .quo .i64 jacNormsE0_0 (.li 7)) .n0))))),
  (3822168479, 102, (.af 31 0 (.ci (.ib .quo .i64 (.vi 3) (.li 10)) .n0)))]
set_option maxRecDepth 1000000 in
set_option maxHeartbeats 100000000 in
theorem jacNormsGood0 : tabGood 100 jacNormsNms0 = true := by kernel_rfl
def jacNorms_0_xs : Spl := .leaf
end Go.Proofs.YtlgifofnejncpaaGreat
