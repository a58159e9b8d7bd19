/-
  'LinLeft': runs of it, part 2.
-/
import Derived.Test.YtainodgbcpkipaaLinLeftt2
namespace Go.Proofs.Ytainodgbcpkipaa
open Go.RowKit Ex
set_option maxRecDepth 1000000
set_option maxHeartbeats 100000000
def l2_xms : List (Nat × List Memo) := []
theorem l2_xmo : AllMem (memRun [(2, 4, 2)] ([]) lN2) l2_xms := trivial
def l2_xe0 : E := (.tf (.ic .lss (.li 0) (.vl 1)) (.i2f (.ib .sub .i64 (.ai 9 0 (.ci (.at 1 0) (.ci (.li 21) .n0))) (.li 10))) (.lf 0))
def l2_xe1 : E := (.fb .mul (.i2f (.ib .sub .i64 (.ai 9 0 (.ci (.ti (.ic .lss (.li 0) (.vl 0)) (.at 0 0) (.li 0)) (.ci (.li 41) .n0))) (.li 20))) l2_xe0)
def l2_xe2 : E := (.tf (.ic .lss (.li 1) (.vl 1)) (.i2f (.ib .sub .i64 (.ai 9 0 (.ci (.at 1 1) (.ci (.li 21) .n0))) (.li 10))) (.lf 0))
def l2_xe3 : E := (.fb .mul (.i2f (.ib .sub .i64 (.ai 9 0 (.ci (.ti (.ic .lss (.li 1) (.vl 0)) (.at 0 1) (.li 1)) (.ci (.li 41) .n0))) (.li 20))) l2_xe2)
def l2_xe4 : E := (.tf (.ic .lss (.li 2) (.vl 1)) (.i2f (.ib .sub .i64 (.ai 9 0 (.ci (.at 1 2) (.ci (.li 21) .n0))) (.li 10))) (.lf 0))
def l2_xe5 : E := (.fb .mul (.i2f (.ib .sub .i64 (.ai 9 0 (.ci (.ti (.ic .lss (.li 2) (.vl 0)) (.at 0 2) (.li 2)) (.ci (.li 41) .n0))) (.li 20))) l2_xe4)
def l2_xe6 : E := (.fb .add (.fb .add (.fb .add (.lf 0) l2_xe1) l2_xe3) l2_xe5)
def l2_xe7 : E := (.fb .mul (.i2f (.ib .sub .i64 (.ai 9 0 (.ci (.ti (.ic .lss (.li 3) (.vl 0)) (.at 0 3) (.li 1)) (.ci (.li 41) .n0))) (.li 20))) l2_xe0)
def l2_xe8 : E := (.fb .mul (.i2f (.ib .sub .i64 (.ai 9 0 (.ci (.ti (.ic .lss (.li 4) (.vl 0)) (.at 0 4) (.li 2)) (.ci (.li 41) .n0))) (.li 20))) l2_xe2)
def l2_xe9 : E := (.fb .mul (.i2f (.ib .sub .i64 (.ai 9 0 (.ci (.ti (.ic .lss (.li 5) (.vl 0)) (.at 0 5) (.li 3)) (.ci (.li 41) .n0))) (.li 20))) l2_xe4)
def l2_xe10 : E := (.fb .mul (.i2f (.ib .sub .i64 (.ai 9 0 (.ci (.ti (.ic .lss (.li 6) (.vl 0)) (.at 0 6) (.li 2)) (.ci (.li 41) .n0))) (.li 20))) l2_xe0)
def l2_xe11 : E := (.fb .mul (.i2f (.ib .sub .i64 (.ai 9 0 (.ci (.ti (.ic .lss (.li 7) (.vl 0)) (.at 0 7) (.li 3)) (.ci (.li 41) .n0))) (.li 20))) l2_xe2)
def l2_xe12 : E := (.fb .mul (.i2f (.ib .sub .i64 (.ai 9 0 (.ci (.ti (.ic .lss (.li 8) (.vl 0)) (.at 0 8) (.li 4)) (.ci (.li 41) .n0))) (.li 20))) l2_xe4)
def l2_xT : Tri := []
def l2_xTS : TrS := [(((.lf 0), (.fb .sub (.fb .sub (.fb .sub l2_xe6 l2_xe1) l2_xe3) l2_xe5)), ((.vf 110), (.vf 111))), (((.lf 0), (.fb .sub (.fb .sub (.fb .sub (.fb .add (.fb .add (.fb .add (.lf 0) l2_xe7) l2_xe8) l2_xe9) l2_xe7) l2_xe8) l2_xe9)), ((.vf 122), (.vf 123))), (((.lf 0), (.fb .sub (.fb .sub (.fb .sub (.fb .add (.fb .add (.fb .add (.lf 0) l2_xe10) l2_xe11) l2_xe12) l2_xe10) l2_xe11) l2_xe12)), ((.vf 134), (.vf 135))), (((.lf 4613937818241073152), (.fb .sub (.fb .sub (.fb .sub (.fb .add l2_xe6 (.lf 4613937818241073152)) l2_xe1) l2_xe3) l2_xe5)), ((.vf 140), (.vf 141)))]
def l2_xN : List E := [(.lf 0), (.lf 4613937818241073152)]
def l2_xQ : Qua := []
def l2_xQE : QuE := []
theorem l2_xa : trisOK lN2 [] l2_xT = true := by kernel_rfl
theorem l2_xb : tssOK lN2 l2_xT l2_xTS = true := by kernel_rfl
theorem l2_xn : numsOK lN2 l2_xN = true := by kernel_rfl
theorem l2_xc : quasOK lN2 [] l2_xQ = true := by kernel_rfl
theorem l2_xd : qesOK lN2 l2_xQ l2_xQE = true := by kernel_rfl
theorem l2_x : lawRunS 7 10 200 [.q, .q, .i] [(2, 4, 2)] ([]) lN2 l2_xTS l2_xN l2_xQE l2_xms = true := by kernel_rfl
end Go.Proofs.Ytainodgbcpkipaa
