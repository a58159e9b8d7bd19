/-
  Polynomials with what is left: powers multiplied, part 7.
-/
import Derived.Test.YtmmpgglbeaofkaaMok
namespace Go.Proofs.Ytmmpgglbeaofkaa
open Go.RowKit Ex
set_option maxRecDepth 1000000 in
set_option maxHeartbeats 100000000 in
theorem line_7_0 : lineRun 7 0 = true := by kernel_rfl
set_option maxRecDepth 1000000 in
set_option maxHeartbeats 100000000 in
theorem line_7_1 : lineRun 7 1 = true := by kernel_rfl
set_option maxRecDepth 1000000 in
set_option maxHeartbeats 100000000 in
theorem line_7_2 : lineRun 7 2 = true := by kernel_rfl
set_option maxRecDepth 1000000 in
set_option maxHeartbeats 100000000 in
theorem line_7_3 : lineRun 7 3 = true := by kernel_rfl
set_option maxRecDepth 1000000 in
set_option maxHeartbeats 100000000 in
theorem line_7_4 : lineRun 7 4 = true := by kernel_rfl
set_option maxRecDepth 1000000 in
set_option maxHeartbeats 100000000 in
theorem line_7_5 : lineRun 7 5 = true := by kernel_rfl
set_option maxRecDepth 1000000 in
set_option maxHeartbeats 100000000 in
theorem line_7_6 : lineRun 7 6 = true := by kernel_rfl
set_option maxRecDepth 1000000 in
set_option maxHeartbeats 100000000 in
theorem line_7_7 : lineRun 7 7 = true := by kernel_rfl
set_option maxRecDepth 1000000 in
set_option maxHeartbeats 100000000 in
theorem line_7_8 : lineRun 7 8 = true := by kernel_rfl
theorem line_7 (b : Nat) (h : b < 9) : lineRun 7 b = true := by
  match b, h with
  | 0, _ => exact line_7_0
  | 1, _ => exact line_7_1
  | 2, _ => exact line_7_2
  | 3, _ => exact line_7_3
  | 4, _ => exact line_7_4
  | 5, _ => exact line_7_5
  | 6, _ => exact line_7_6
  | 7, _ => exact line_7_7
  | 8, _ => exact line_7_8
  | n + 9, h => omega
end Go.Proofs.Ytmmpgglbeaofkaa
