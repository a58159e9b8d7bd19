/-
  Polynomials with what is left: the chapter's example.
-/
import Derived.Test.YtmmpgglbeaofkaaMoa
namespace Go.Proofs.Ytmmpgglbeaofkaa
open Go.RowKit Ex
set_option maxRecDepth 1000000 in
set_option maxHeartbeats 100000000 in
theorem known5 : good (xcall Try.prog (ctr []) [] 1000000 40 15 [] .nil 0) = true := by kernel_rfl
noncomputable def lineRun (a b : Nat) : Bool := good (xcall Try.prog (ctrK 15 [(0, 9, a), (1, 9, b)]) [] 1000000 40 11 [.c (.ei .i64 (.vi 0)), .c (.ei .i64 (.vi 1))] .nil 0)
end Go.Proofs.Ytmmpgglbeaofkaa
