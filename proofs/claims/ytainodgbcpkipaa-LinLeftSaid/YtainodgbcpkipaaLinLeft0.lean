/-
  'LinLeft': runs of it, part 0.
-/
import Derived.Test.YtainodgbcpkipaaLinLeftt0
namespace Go.Proofs.Ytainodgbcpkipaa
open Go.RowKit Ex
set_option maxRecDepth 1000000
set_option maxHeartbeats 100000000
def l0_xms : List (Nat × List Memo) := []
theorem l0_xmo : AllMem (memRun [(2, 4, 0)] ([]) lN0) l0_xms := trivial
def l0_xe0 : E := (.fb .mul (.i2f (.ib .sub .i64 (.ai 9 0 (.ci (.ti (.ic .lss (.li 0) (.vl 0)) (.at 0 0) (.li 0)) (.ci (.li 41) .n0))) (.li 20))) (.tf (.ic .lss (.li 0) (.vl 1)) (.i2f (.ib .sub .i64 (.ai 9 0 (.ci (.at 1 0) (.ci (.li 21) .n0))) (.li 10))) (.lf 0)))
def l0_xe1 : E := (.fb .add (.lf 0) l0_xe0)
def l0_xT : Tri := []
def l0_xTS : TrS := [(((.lf 0), (.fb .sub l0_xe1 l0_xe0)), ((.vf 102), (.vf 103))), (((.lf 4613937818241073152), (.fb .sub (.fb .add l0_xe1 (.lf 4613937818241073152)) l0_xe0)), ((.vf 104), (.vf 105)))]
def l0_xN : List E := [(.lf 0), (.lf 4613937818241073152)]
def l0_xQ : Qua := []
def l0_xQE : QuE := []
theorem l0_xa : trisOK lN0 [] l0_xT = true := by kernel_rfl
theorem l0_xb : tssOK lN0 l0_xT l0_xTS = true := by kernel_rfl
theorem l0_xn : numsOK lN0 l0_xN = true := by kernel_rfl
theorem l0_xc : quasOK lN0 [] l0_xQ = true := by kernel_rfl
theorem l0_xd : qesOK lN0 l0_xQ l0_xQE = true := by kernel_rfl
theorem l0_x : lawRunS 7 10 200 [.q, .q, .i] [(2, 4, 0)] ([]) lN0 l0_xTS l0_xN l0_xQE l0_xms = true := by kernel_rfl
end Go.Proofs.Ytainodgbcpkipaa
