/-
  'LinLeft': runs of it, part 1.
-/
import Derived.Test.YtainodgbcpkipaaLinLeftt1
namespace Go.Proofs.Ytainodgbcpkipaa
open Go.RowKit Ex
set_option maxRecDepth 1000000
set_option maxHeartbeats 100000000
def l1_xms : List (Nat × List Memo) := []
theorem l1_xmo : AllMem (memRun [(2, 4, 1)] ([]) lN1) l1_xms := trivial
def l1_xe0 : E := (.tf (.ic .lss (.li 0) (.vl 1)) (.i2f (.ib .sub .i64 (.ai 9 0 (.ci (.at 1 0) (.ci (.li 21) .n0))) (.li 10))) (.lf 0))
def l1_xe1 : E := (.fb .mul (.i2f (.ib .sub .i64 (.ai 9 0 (.ci (.ti (.ic .lss (.li 0) (.vl 0)) (.at 0 0) (.li 0)) (.ci (.li 41) .n0))) (.li 20))) l1_xe0)
def l1_xe2 : E := (.tf (.ic .lss (.li 1) (.vl 1)) (.i2f (.ib .sub .i64 (.ai 9 0 (.ci (.at 1 1) (.ci (.li 21) .n0))) (.li 10))) (.lf 0))
def l1_xe3 : E := (.fb .mul (.i2f (.ib .sub .i64 (.ai 9 0 (.ci (.ti (.ic .lss (.li 1) (.vl 0)) (.at 0 1) (.li 1)) (.ci (.li 41) .n0))) (.li 20))) l1_xe2)
def l1_xe4 : E := (.fb .add (.fb .add (.lf 0) l1_xe1) l1_xe3)
def l1_xe5 : E := (.fb .mul (.i2f (.ib .sub .i64 (.ai 9 0 (.ci (.ti (.ic .lss (.li 2) (.vl 0)) (.at 0 2) (.li 1)) (.ci (.li 41) .n0))) (.li 20))) l1_xe0)
def l1_xe6 : E := (.fb .mul (.i2f (.ib .sub .i64 (.ai 9 0 (.ci (.ti (.ic .lss (.li 3) (.vl 0)) (.at 0 3) (.li 2)) (.ci (.li 41) .n0))) (.li 20))) l1_xe2)
def l1_xT : Tri := []
def l1_xTS : TrS := [(((.lf 0), (.fb .sub (.fb .sub l1_xe4 l1_xe1) l1_xe3)), ((.vf 106), (.vf 107))), (((.lf 0), (.fb .sub (.fb .sub (.fb .add (.fb .add (.lf 0) l1_xe5) l1_xe6) l1_xe5) l1_xe6)), ((.vf 114), (.vf 115))), (((.lf 4613937818241073152), (.fb .sub (.fb .sub (.fb .add l1_xe4 (.lf 4613937818241073152)) l1_xe1) l1_xe3)), ((.vf 118), (.vf 119)))]
def l1_xN : List E := [(.lf 0), (.lf 4613937818241073152)]
def l1_xQ : Qua := []
def l1_xQE : QuE := []
theorem l1_xa : trisOK lN1 [] l1_xT = true := by kernel_rfl
theorem l1_xb : tssOK lN1 l1_xT l1_xTS = true := by kernel_rfl
theorem l1_xn : numsOK lN1 l1_xN = true := by kernel_rfl
theorem l1_xc : quasOK lN1 [] l1_xQ = true := by kernel_rfl
theorem l1_xd : qesOK lN1 l1_xQ l1_xQE = true := by kernel_rfl
theorem l1_x : lawRunS 7 10 200 [.q, .q, .i] [(2, 4, 1)] ([]) lN1 l1_xTS l1_xN l1_xQE l1_xms = true := by kernel_rfl
end Go.Proofs.Ytainodgbcpkipaa
