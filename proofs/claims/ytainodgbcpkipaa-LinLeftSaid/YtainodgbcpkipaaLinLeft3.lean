/-
  'LinLeft': runs of it, part 3.
-/
import Derived.Test.YtainodgbcpkipaaLinLeftt3
namespace Go.Proofs.Ytainodgbcpkipaa
open Go.RowKit Ex
set_option maxRecDepth 1000000
set_option maxHeartbeats 100000000
def l3_xms : List (Nat × List Memo) := []
theorem l3_xmo : AllMem (memRun [(2, 4, 3)] ([]) lN3) l3_xms := trivial
def l3_xe0 : E := (.tf (.ic .lss (.li 0) (.vl 1)) (.i2f (.ib .sub .i64 (.ai 9 0 (.ci (.at 1 0) (.ci (.li 21) .n0))) (.li 10))) (.lf 0))
def l3_xe1 : E := (.fb .mul (.i2f (.ib .sub .i64 (.ai 9 0 (.ci (.ti (.ic .lss (.li 0) (.vl 0)) (.at 0 0) (.li 0)) (.ci (.li 41) .n0))) (.li 20))) l3_xe0)
def l3_xe2 : E := (.tf (.ic .lss (.li 1) (.vl 1)) (.i2f (.ib .sub .i64 (.ai 9 0 (.ci (.at 1 1) (.ci (.li 21) .n0))) (.li 10))) (.lf 0))
def l3_xe3 : E := (.fb .mul (.i2f (.ib .sub .i64 (.ai 9 0 (.ci (.ti (.ic .lss (.li 1) (.vl 0)) (.at 0 1) (.li 1)) (.ci (.li 41) .n0))) (.li 20))) l3_xe2)
def l3_xe4 : E := (.tf (.ic .lss (.li 2) (.vl 1)) (.i2f (.ib .sub .i64 (.ai 9 0 (.ci (.at 1 2) (.ci (.li 21) .n0))) (.li 10))) (.lf 0))
def l3_xe5 : E := (.fb .mul (.i2f (.ib .sub .i64 (.ai 9 0 (.ci (.ti (.ic .lss (.li 2) (.vl 0)) (.at 0 2) (.li 2)) (.ci (.li 41) .n0))) (.li 20))) l3_xe4)
def l3_xe6 : E := (.tf (.ic .lss (.li 3) (.vl 1)) (.i2f (.ib .sub .i64 (.ai 9 0 (.ci (.at 1 3) (.ci (.li 21) .n0))) (.li 10))) (.lf 0))
def l3_xe7 : E := (.fb .mul (.i2f (.ib .sub .i64 (.ai 9 0 (.ci (.ti (.ic .lss (.li 3) (.vl 0)) (.at 0 3) (.li 3)) (.ci (.li 41) .n0))) (.li 20))) l3_xe6)
def l3_xe8 : E := (.fb .add (.fb .add (.fb .add (.fb .add (.lf 0) l3_xe1) l3_xe3) l3_xe5) l3_xe7)
def l3_xe9 : E := (.fb .mul (.i2f (.ib .sub .i64 (.ai 9 0 (.ci (.ti (.ic .lss (.li 4) (.vl 0)) (.at 0 4) (.li 1)) (.ci (.li 41) .n0))) (.li 20))) l3_xe0)
def l3_xe10 : E := (.fb .mul (.i2f (.ib .sub .i64 (.ai 9 0 (.ci (.ti (.ic .lss (.li 5) (.vl 0)) (.at 0 5) (.li 2)) (.ci (.li 41) .n0))) (.li 20))) l3_xe2)
def l3_xe11 : E := (.fb .mul (.i2f (.ib .sub .i64 (.ai 9 0 (.ci (.ti (.ic .lss (.li 6) (.vl 0)) (.at 0 6) (.li 3)) (.ci (.li 41) .n0))) (.li 20))) l3_xe4)
def l3_xe12 : E := (.fb .mul (.i2f (.ib .sub .i64 (.ai 9 0 (.ci (.ti (.ic .lss (.li 7) (.vl 0)) (.at 0 7) (.li 4)) (.ci (.li 41) .n0))) (.li 20))) l3_xe6)
def l3_xe13 : E := (.fb .mul (.i2f (.ib .sub .i64 (.ai 9 0 (.ci (.ti (.ic .lss (.li 8) (.vl 0)) (.at 0 8) (.li 2)) (.ci (.li 41) .n0))) (.li 20))) l3_xe0)
def l3_xe14 : E := (.fb .mul (.i2f (.ib .sub .i64 (.ai 9 0 (.ci (.ti (.ic .lss (.li 9) (.vl 0)) (.at 0 9) (.li 3)) (.ci (.li 41) .n0))) (.li 20))) l3_xe2)
def l3_xe15 : E := (.fb .mul (.i2f (.ib .sub .i64 (.ai 9 0 (.ci (.ti (.ic .lss (.li 10) (.vl 0)) (.at 0 10) (.li 4)) (.ci (.li 41) .n0))) (.li 20))) l3_xe4)
def l3_xe16 : E := (.fb .mul (.i2f (.ib .sub .i64 (.ai 9 0 (.ci (.ti (.ic .lss (.li 11) (.vl 0)) (.at 0 11) (.li 5)) (.ci (.li 41) .n0))) (.li 20))) l3_xe6)
def l3_xe17 : E := (.fb .mul (.i2f (.ib .sub .i64 (.ai 9 0 (.ci (.ti (.ic .lss (.li 12) (.vl 0)) (.at 0 12) (.li 3)) (.ci (.li 41) .n0))) (.li 20))) l3_xe0)
def l3_xe18 : E := (.fb .mul (.i2f (.ib .sub .i64 (.ai 9 0 (.ci (.ti (.ic .lss (.li 13) (.vl 0)) (.at 0 13) (.li 4)) (.ci (.li 41) .n0))) (.li 20))) l3_xe2)
def l3_xe19 : E := (.fb .mul (.i2f (.ib .sub .i64 (.ai 9 0 (.ci (.ti (.ic .lss (.li 14) (.vl 0)) (.at 0 14) (.li 5)) (.ci (.li 41) .n0))) (.li 20))) l3_xe4)
def l3_xe20 : E := (.fb .mul (.i2f (.ib .sub .i64 (.ai 9 0 (.ci (.ti (.ic .lss (.li 15) (.vl 0)) (.at 0 15) (.li 6)) (.ci (.li 41) .n0))) (.li 20))) l3_xe6)
def l3_xT : Tri := []
def l3_xTS : TrS := [(((.lf 0), (.fb .sub (.fb .sub (.fb .sub (.fb .sub l3_xe8 l3_xe1) l3_xe3) l3_xe5) l3_xe7)), ((.vf 114), (.vf 115))), (((.lf 0), (.fb .sub (.fb .sub (.fb .sub (.fb .sub (.fb .add (.fb .add (.fb .add (.fb .add (.lf 0) l3_xe9) l3_xe10) l3_xe11) l3_xe12) l3_xe9) l3_xe10) l3_xe11) l3_xe12)), ((.vf 130), (.vf 131))), (((.lf 0), (.fb .sub (.fb .sub (.fb .sub (.fb .sub (.fb .add (.fb .add (.fb .add (.fb .add (.lf 0) l3_xe13) l3_xe14) l3_xe15) l3_xe16) l3_xe13) l3_xe14) l3_xe15) l3_xe16)), ((.vf 146), (.vf 147))), (((.lf 0), (.fb .sub (.fb .sub (.fb .sub (.fb .sub (.fb .add (.fb .add (.fb .add (.fb .add (.lf 0) l3_xe17) l3_xe18) l3_xe19) l3_xe20) l3_xe17) l3_xe18) l3_xe19) l3_xe20)), ((.vf 162), (.vf 163))), (((.lf 4613937818241073152), (.fb .sub (.fb .sub (.fb .sub (.fb .sub (.fb .add l3_xe8 (.lf 4613937818241073152)) l3_xe1) l3_xe3) l3_xe5) l3_xe7)), ((.vf 170), (.vf 171)))]
def l3_xN : List E := [(.lf 0), (.lf 4613937818241073152)]
def l3_xQ : Qua := []
def l3_xQE : QuE := []
theorem l3_xa : trisOK lN3 [] l3_xT = true := by kernel_rfl
theorem l3_xb : tssOK lN3 l3_xT l3_xTS = true := by kernel_rfl
theorem l3_xn : numsOK lN3 l3_xN = true := by kernel_rfl
theorem l3_xc : quasOK lN3 [] l3_xQ = true := by kernel_rfl
theorem l3_xd : qesOK lN3 l3_xQ l3_xQE = true := by kernel_rfl
theorem l3_x : lawRunS 7 10 200 [.q, .q, .i] [(2, 4, 3)] ([]) lN3 l3_xTS l3_xN l3_xQE l3_xms = true := by kernel_rfl
end Go.Proofs.Ytainodgbcpkipaa
