/-
  Polynomials with what is left: powers multiplied, part 4.
-/
import Derived.Test.YtmmpgglbeaofkaaMok
namespace Go.Proofs.Ytmmpgglbeaofkaa
open Go.RowKit Ex
set_option maxRecDepth 1000000 in
set_option maxHeartbeats 100000000 in
theorem line_4_0 : lineRun 4 0 = true := by kernel_rfl
set_option maxRecDepth 1000000 in
set_option maxHeartbeats 100000000 in
theorem line_4_1 : lineRun 4 1 = true := by kernel_rfl
set_option maxRecDepth 1000000 in
set_option maxHeartbeats 100000000 in
theorem line_4_2 : lineRun 4 2 = true := by kernel_rfl
set_option maxRecDepth 1000000 in
set_option maxHeartbeats 100000000 in
theorem line_4_3 : lineRun 4 3 = true := by kernel_rfl
set_option maxRecDepth 1000000 in
set_option maxHeartbeats 100000000 in
theorem line_4_4 : lineRun 4 4 = true := by kernel_rfl
set_option maxRecDepth 1000000 in
set_option maxHeartbeats 100000000 in
theorem line_4_5 : lineRun 4 5 = true := by kernel_rfl
set_option maxRecDepth 1000000 in
set_option maxHeartbeats 100000000 in
theorem line_4_6 : lineRun 4 6 = true := by kernel_rfl
set_option maxRecDepth 1000000 in
set_option maxHeartbeats 100000000 in
theorem line_4_7 : lineRun 4 7 = true := by kernel_rfl
set_option maxRecDepth 1000000 in
set_option maxHeartbeats 100000000 in
theorem line_4_8 : lineRun 4 8 = true := by kernel_rfl
theorem line_4 (b : Nat) (h : b < 9) : lineRun 4 b = true := by
  match b, h with
  | 0, _ => exact line_4_0
  | 1, _ => exact line_4_1
  | 2, _ => exact line_4_2
  | 3, _ => exact line_4_3
  | 4, _ => exact line_4_4
  | 5, _ => exact line_4_5
  | 6, _ => exact line_4_6
  | 7, _ => exact line_4_7
  | 8, _ => exact line_4_8
  | n + 9, h => omega
end Go.Proofs.Ytmmpgglbeaofkaa
