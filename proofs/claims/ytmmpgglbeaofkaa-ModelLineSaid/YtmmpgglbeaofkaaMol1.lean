/-
  Polynomials with what is left: powers multiplied, part 1.
-/
import Derived.Test.YtmmpgglbeaofkaaMok
namespace Go.Proofs.Ytmmpgglbeaofkaa
open Go.RowKit Ex
set_option maxRecDepth 1000000 in
set_option maxHeartbeats 100000000 in
theorem line_1_0 : lineRun 1 0 = true := by kernel_rfl
set_option maxRecDepth 1000000 in
set_option maxHeartbeats 100000000 in
theorem line_1_1 : lineRun 1 1 = true := by kernel_rfl
set_option maxRecDepth 1000000 in
set_option maxHeartbeats 100000000 in
theorem line_1_2 : lineRun 1 2 = true := by kernel_rfl
set_option maxRecDepth 1000000 in
set_option maxHeartbeats 100000000 in
theorem line_1_3 : lineRun 1 3 = true := by kernel_rfl
set_option maxRecDepth 1000000 in
set_option maxHeartbeats 100000000 in
theorem line_1_4 : lineRun 1 4 = true := by kernel_rfl
set_option maxRecDepth 1000000 in
set_option maxHeartbeats 100000000 in
theorem line_1_5 : lineRun 1 5 = true := by kernel_rfl
set_option maxRecDepth 1000000 in
set_option maxHeartbeats 100000000 in
theorem line_1_6 : lineRun 1 6 = true := by kernel_rfl
set_option maxRecDepth 1000000 in
set_option maxHeartbeats 100000000 in
theorem line_1_7 : lineRun 1 7 = true := by kernel_rfl
set_option maxRecDepth 1000000 in
set_option maxHeartbeats 100000000 in
theorem line_1_8 : lineRun 1 8 = true := by kernel_rfl
theorem line_1 (b : Nat) (h : b < 9) : lineRun 1 b = true := by
  match b, h with
  | 0, _ => exact line_1_0
  | 1, _ => exact line_1_1
  | 2, _ => exact line_1_2
  | 3, _ => exact line_1_3
  | 4, _ => exact line_1_4
  | 5, _ => exact line_1_5
  | 6, _ => exact line_1_6
  | 7, _ => exact line_1_7
  | 8, _ => exact line_1_8
  | n + 9, h => omega
end Go.Proofs.Ytmmpgglbeaofkaa
