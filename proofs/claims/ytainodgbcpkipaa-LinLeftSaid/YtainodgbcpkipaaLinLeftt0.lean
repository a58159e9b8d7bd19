/-
  'LinLeft': what names stand for, where the first rest is 0.
-/
import Derived.Test.YtainodgbcpkipaaM6b
namespace Go.Proofs.Ytainodgbcpkipaa
open Go.RowKit Ex
def le0_0 : E := (.i2f (.ib .sub .i64 (.ai 9 0 (.ci (.ti (.ic .lss (.li 0) (.vl 0)) (.at 0 0) (.li 0)) (.ci (.li 41) .n0))) (.li 20)))
def le0_1 : E := (.tf (.ic .lss (.li 0) (.vl 1)) (.i2f (.ib .sub .i64 (.ai 9 0 (.ci (.at 1 0) (.ci (.li 21) .n0))) (.li 10))) (.lf 0))
def le0_2 : E := (.fb .add (.lf 0) (.fb .mul le0_0 le0_1))
def le0_3 : E := (.fb .add le0_2 (.lf 4613937818241073152))
def lN0 : Nms := [(48819534, 100, (.af 22 0 (.cf le0_0 (.cf le0_0 (.cf le0_1 (.cf le0_1 .n0)))))),
  (49819537, 101, (.af 22 1 (.cf le0_0 (.cf le0_0 (.cf le0_1 (.cf le0_1 .n0)))))),
  (2935761961, 102, (.af 21 0 (.cf le0_2 (.cf le0_2 (.cf (.vf 100) (.cf (.vf 101) .n0)))))),
  (2936761964, 103, (.af 21 1 (.cf le0_2 (.cf le0_2 (.cf (.vf 100) (.cf (.vf 101) .n0)))))),
  (4289244810, 104, (.af 21 0 (.cf le0_3 (.cf le0_3 (.cf (.vf 100) (.cf (.vf 101) .n0)))))),
  (4290244813, 105, (.af 21 1 (.cf le0_3 (.cf le0_3 (.cf (.vf 100) (.cf (.vf 101) .n0))))))]
set_option maxRecDepth 1000000 in
set_option maxHeartbeats 100000000 in
theorem lG0 : tabGood 100 lN0 = true := by kernel_rfl
end Go.Proofs.Ytainodgbcpkipaa
