/-
  Polynomials with what is left: powers multiplied, part 8.
-/
import Derived.Test.YtmmpgglbeaofkaaMok
namespace Go.Proofs.Ytmmpgglbeaofkaa
open Go.RowKit Ex
set_option maxRecDepth 1000000 in
set_option maxHeartbeats 100000000 in
theorem line_8_0 : lineRun 8 0 = true := by kernel_rfl
set_option maxRecDepth 1000000 in
set_option maxHeartbeats 100000000 in
theorem line_8_1 : lineRun 8 1 = true := by kernel_rfl
set_option maxRecDepth 1000000 in
set_option maxHeartbeats 100000000 in
theorem line_8_2 : lineRun 8 2 = true := by kernel_rfl
set_option maxRecDepth 1000000 in
set_option maxHeartbeats 100000000 in
theorem line_8_3 : lineRun 8 3 = true := by kernel_rfl
set_option maxRecDepth 1000000 in
set_option maxHeartbeats 100000000 in
theorem line_8_4 : lineRun 8 4 = true := by kernel_rfl
set_option maxRecDepth 1000000 in
set_option maxHeartbeats 100000000 in
theorem line_8_5 : lineRun 8 5 = true := by kernel_rfl
set_option maxRecDepth 1000000 in
set_option maxHeartbeats 100000000 in
theorem line_8_6 : lineRun 8 6 = true := by kernel_rfl
set_option maxRecDepth 1000000 in
set_option maxHeartbeats 100000000 in
theorem line_8_7 : lineRun 8 7 = true := by kernel_rfl
set_option maxRecDepth 1000000 in
set_option maxHeartbeats 100000000 in
theorem line_8_8 : lineRun 8 8 = true := by kernel_rfl
theorem line_8 (b : Nat) (h : b < 9) : lineRun 8 b = true := by
  match b, h with
  | 0, _ => exact line_8_0
  | 1, _ => exact line_8_1
  | 2, _ => exact line_8_2
  | 3, _ => exact line_8_3
  | 4, _ => exact line_8_4
  | 5, _ => exact line_8_5
  | 6, _ => exact line_8_6
  | 7, _ => exact line_8_7
  | 8, _ => exact line_8_8
  | n + 9, h => omega
end Go.Proofs.Ytmmpgglbeaofkaa
