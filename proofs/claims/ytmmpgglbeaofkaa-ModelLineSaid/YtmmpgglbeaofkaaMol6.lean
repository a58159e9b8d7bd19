/-
  Polynomials with what is left: powers multiplied, part 6.
-/
import Derived.Test.YtmmpgglbeaofkaaMok
namespace Go.Proofs.Ytmmpgglbeaofkaa
open Go.RowKit Ex
set_option maxRecDepth 1000000 in
set_option maxHeartbeats 100000000 in
theorem line_6_0 : lineRun 6 0 = true := by kernel_rfl
set_option maxRecDepth 1000000 in
set_option maxHeartbeats 100000000 in
theorem line_6_1 : lineRun 6 1 = true := by kernel_rfl
set_option maxRecDepth 1000000 in
set_option maxHeartbeats 100000000 in
theorem line_6_2 : lineRun 6 2 = true := by kernel_rfl
set_option maxRecDepth 1000000 in
set_option maxHeartbeats 100000000 in
theorem line_6_3 : lineRun 6 3 = true := by kernel_rfl
set_option maxRecDepth 1000000 in
set_option maxHeartbeats 100000000 in
theorem line_6_4 : lineRun 6 4 = true := by kernel_rfl
set_option maxRecDepth 1000000 in
set_option maxHeartbeats 100000000 in
theorem line_6_5 : lineRun 6 5 = true := by kernel_rfl
set_option maxRecDepth 1000000 in
set_option maxHeartbeats 100000000 in
theorem line_6_6 : lineRun 6 6 = true := by kernel_rfl
set_option maxRecDepth 1000000 in
set_option maxHeartbeats 100000000 in
theorem line_6_7 : lineRun 6 7 = true := by kernel_rfl
set_option maxRecDepth 1000000 in
set_option maxHeartbeats 100000000 in
theorem line_6_8 : lineRun 6 8 = true := by kernel_rfl
theorem line_6 (b : Nat) (h : b < 9) : lineRun 6 b = true := by
  match b, h with
  | 0, _ => exact line_6_0
  | 1, _ => exact line_6_1
  | 2, _ => exact line_6_2
  | 3, _ => exact line_6_3
  | 4, _ => exact line_6_4
  | 5, _ => exact line_6_5
  | 6, _ => exact line_6_6
  | 7, _ => exact line_6_7
  | 8, _ => exact line_6_8
  | n + 9, h => omega
end Go.Proofs.Ytmmpgglbeaofkaa
