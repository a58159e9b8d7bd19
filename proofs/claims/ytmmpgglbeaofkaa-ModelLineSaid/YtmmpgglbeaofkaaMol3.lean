/-
  Polynomials with what is left: powers multiplied, part 3.
-/
import Derived.Test.YtmmpgglbeaofkaaMok
namespace Go.Proofs.Ytmmpgglbeaofkaa
open Go.RowKit Ex
set_option maxRecDepth 1000000 in
set_option maxHeartbeats 100000000 in
theorem line_3_0 : lineRun 3 0 = true := by kernel_rfl
set_option maxRecDepth 1000000 in
set_option maxHeartbeats 100000000 in
theorem line_3_1 : lineRun 3 1 = true := by kernel_rfl
set_option maxRecDepth 1000000 in
set_option maxHeartbeats 100000000 in
theorem line_3_2 : lineRun 3 2 = true := by kernel_rfl
set_option maxRecDepth 1000000 in
set_option maxHeartbeats 100000000 in
theorem line_3_3 : lineRun 3 3 = true := by kernel_rfl
set_option maxRecDepth 1000000 in
set_option maxHeartbeats 100000000 in
theorem line_3_4 : lineRun 3 4 = true := by kernel_rfl
set_option maxRecDepth 1000000 in
set_option maxHeartbeats 100000000 in
theorem line_3_5 : lineRun 3 5 = true := by kernel_rfl
set_option maxRecDepth 1000000 in
set_option maxHeartbeats 100000000 in
theorem line_3_6 : lineRun 3 6 = true := by kernel_rfl
set_option maxRecDepth 1000000 in
set_option maxHeartbeats 100000000 in
theorem line_3_7 : lineRun 3 7 = true := by kernel_rfl
set_option maxRecDepth 1000000 in
set_option maxHeartbeats 100000000 in
theorem line_3_8 : lineRun 3 8 = true := by kernel_rfl
theorem line_3 (b : Nat) (h : b < 9) : lineRun 3 b = true := by
  match b, h with
  | 0, _ => exact line_3_0
  | 1, _ => exact line_3_1
  | 2, _ => exact line_3_2
  | 3, _ => exact line_3_3
  | 4, _ => exact line_3_4
  | 5, _ => exact line_3_5
  | 6, _ => exact line_3_6
  | 7, _ => exact line_3_7
  | 8, _ => exact line_3_8
  | n + 9, h => omega
end Go.Proofs.Ytmmpgglbeaofkaa
