/-
  Polynomials with what is left: powers multiplied, part 0.
-/
import Derived.Test.YtmmpgglbeaofkaaMok
namespace Go.Proofs.Ytmmpgglbeaofkaa
open Go.RowKit Ex
set_option maxRecDepth 1000000 in
set_option maxHeartbeats 100000000 in
theorem line_0_0 : lineRun 0 0 = true := by kernel_rfl
set_option maxRecDepth 1000000 in
set_option maxHeartbeats 100000000 in
theorem line_0_1 : lineRun 0 1 = true := by kernel_rfl
set_option maxRecDepth 1000000 in
set_option maxHeartbeats 100000000 in
theorem line_0_2 : lineRun 0 2 = true := by kernel_rfl
set_option maxRecDepth 1000000 in
set_option maxHeartbeats 100000000 in
theorem line_0_3 : lineRun 0 3 = true := by kernel_rfl
set_option maxRecDepth 1000000 in
set_option maxHeartbeats 100000000 in
theorem line_0_4 : lineRun 0 4 = true := by kernel_rfl
set_option maxRecDepth 1000000 in
set_option maxHeartbeats 100000000 in
theorem line_0_5 : lineRun 0 5 = true := by kernel_rfl
set_option maxRecDepth 1000000 in
set_option maxHeartbeats 100000000 in
theorem line_0_6 : lineRun 0 6 = true := by kernel_rfl
set_option maxRecDepth 1000000 in
set_option maxHeartbeats 100000000 in
theorem line_0_7 : lineRun 0 7 = true := by kernel_rfl
set_option maxRecDepth 1000000 in
set_option maxHeartbeats 100000000 in
theorem line_0_8 : lineRun 0 8 = true := by kernel_rfl
theorem line_0 (b : Nat) (h : b < 9) : lineRun 0 b = true := by
  match b, h with
  | 0, _ => exact line_0_0
  | 1, _ => exact line_0_1
  | 2, _ => exact line_0_2
  | 3, _ => exact line_0_3
  | 4, _ => exact line_0_4
  | 5, _ => exact line_0_5
  | 6, _ => exact line_0_6
  | 7, _ => exact line_0_7
  | 8, _ => exact line_0_8
  | n + 9, h => omega
end Go.Proofs.Ytmmpgglbeaofkaa
