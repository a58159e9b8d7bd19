/-
  Polynomials with what is left: powers multiplied, part 2.
-/
import Derived.Test.YtmmpgglbeaofkaaMok
namespace Go.Proofs.Ytmmpgglbeaofkaa
open Go.RowKit Ex
set_option maxRecDepth 1000000 in
set_option maxHeartbeats 100000000 in
theorem line_2_0 : lineRun 2 0 = true := by kernel_rfl
set_option maxRecDepth 1000000 in
set_option maxHeartbeats 100000000 in
theorem line_2_1 : lineRun 2 1 = true := by kernel_rfl
set_option maxRecDepth 1000000 in
set_option maxHeartbeats 100000000 in
theorem line_2_2 : lineRun 2 2 = true := by kernel_rfl
set_option maxRecDepth 1000000 in
set_option maxHeartbeats 100000000 in
theorem line_2_3 : lineRun 2 3 = true := by kernel_rfl
set_option maxRecDepth 1000000 in
set_option maxHeartbeats 100000000 in
theorem line_2_4 : lineRun 2 4 = true := by kernel_rfl
set_option maxRecDepth 1000000 in
set_option maxHeartbeats 100000000 in
theorem line_2_5 : lineRun 2 5 = true := by kernel_rfl
set_option maxRecDepth 1000000 in
set_option maxHeartbeats 100000000 in
theorem line_2_6 : lineRun 2 6 = true := by kernel_rfl
set_option maxRecDepth 1000000 in
set_option maxHeartbeats 100000000 in
theorem line_2_7 : lineRun 2 7 = true := by kernel_rfl
set_option maxRecDepth 1000000 in
set_option maxHeartbeats 100000000 in
theorem line_2_8 : lineRun 2 8 = true := by kernel_rfl
theorem line_2 (b : Nat) (h : b < 9) : lineRun 2 b = true := by
  match b, h with
  | 0, _ => exact line_2_0
  | 1, _ => exact line_2_1
  | 2, _ => exact line_2_2
  | 3, _ => exact line_2_3
  | 4, _ => exact line_2_4
  | 5, _ => exact line_2_5
  | 6, _ => exact line_2_6
  | 7, _ => exact line_2_7
  | 8, _ => exact line_2_8
  | n + 9, h => omega
end Go.Proofs.Ytmmpgglbeaofkaa
