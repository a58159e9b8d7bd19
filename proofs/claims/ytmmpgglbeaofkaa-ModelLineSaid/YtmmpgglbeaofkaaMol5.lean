/-
  Polynomials with what is left: powers multiplied, part 5.
-/
import Derived.Test.YtmmpgglbeaofkaaMok
namespace Go.Proofs.Ytmmpgglbeaofkaa
open Go.RowKit Ex
set_option maxRecDepth 1000000 in
set_option maxHeartbeats 100000000 in
theorem line_5_0 : lineRun 5 0 = true := by kernel_rfl
set_option maxRecDepth 1000000 in
set_option maxHeartbeats 100000000 in
theorem line_5_1 : lineRun 5 1 = true := by kernel_rfl
set_option maxRecDepth 1000000 in
set_option maxHeartbeats 100000000 in
theorem line_5_2 : lineRun 5 2 = true := by kernel_rfl
set_option maxRecDepth 1000000 in
set_option maxHeartbeats 100000000 in
theorem line_5_3 : lineRun 5 3 = true := by kernel_rfl
set_option maxRecDepth 1000000 in
set_option maxHeartbeats 100000000 in
theorem line_5_4 : lineRun 5 4 = true := by kernel_rfl
set_option maxRecDepth 1000000 in
set_option maxHeartbeats 100000000 in
theorem line_5_5 : lineRun 5 5 = true := by kernel_rfl
set_option maxRecDepth 1000000 in
set_option maxHeartbeats 100000000 in
theorem line_5_6 : lineRun 5 6 = true := by kernel_rfl
set_option maxRecDepth 1000000 in
set_option maxHeartbeats 100000000 in
theorem line_5_7 : lineRun 5 7 = true := by kernel_rfl
set_option maxRecDepth 1000000 in
set_option maxHeartbeats 100000000 in
theorem line_5_8 : lineRun 5 8 = true := by kernel_rfl
theorem line_5 (b : Nat) (h : b < 9) : lineRun 5 b = true := by
  match b, h with
  | 0, _ => exact line_5_0
  | 1, _ => exact line_5_1
  | 2, _ => exact line_5_2
  | 3, _ => exact line_5_3
  | 4, _ => exact line_5_4
  | 5, _ => exact line_5_5
  | 6, _ => exact line_5_6
  | 7, _ => exact line_5_7
  | 8, _ => exact line_5_8
  | n + 9, h => omega
end Go.Proofs.Ytmmpgglbeaofkaa
