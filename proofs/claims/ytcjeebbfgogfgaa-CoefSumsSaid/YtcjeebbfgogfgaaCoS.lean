/-
  The methods' numbers: the sums.
-/
import Derived.Test.YtcjeebbfgogfgaaCoa
namespace Go.Proofs.Ytcjeebbfgogfgaa
open Go.RowKit Ex

set_option maxRecDepth 1000000 in
set_option maxHeartbeats 100000000 in
theorem sums_00 : one 7 [] 0 0 = true := by kernel_rfl
set_option maxRecDepth 1000000 in
set_option maxHeartbeats 100000000 in
theorem sums_01 : one 7 [] 0 1 = true := by kernel_rfl
set_option maxRecDepth 1000000 in
set_option maxHeartbeats 100000000 in
theorem sums_02 : one 7 [] 0 2 = true := by kernel_rfl
set_option maxRecDepth 1000000 in
set_option maxHeartbeats 100000000 in
theorem sums_03 : one 7 [] 0 3 = true := by kernel_rfl
set_option maxRecDepth 1000000 in
set_option maxHeartbeats 100000000 in
theorem sums_04 : one 7 [] 0 4 = true := by kernel_rfl
set_option maxRecDepth 1000000 in
set_option maxHeartbeats 100000000 in
theorem sums_10 : one 7 [] 1 0 = true := by kernel_rfl
set_option maxRecDepth 1000000 in
set_option maxHeartbeats 100000000 in
theorem sums_11 : one 7 [] 1 1 = true := by kernel_rfl
set_option maxRecDepth 1000000 in
set_option maxHeartbeats 100000000 in
theorem sums_12 : one 7 [] 1 2 = true := by kernel_rfl
set_option maxRecDepth 1000000 in
set_option maxHeartbeats 100000000 in
theorem sums_13 : one 7 [] 1 3 = true := by kernel_rfl
theorem coefSums_any (a b : Int) (w : World) (_h : -9223372036854775808 ≤ a ∧ a ≤ 9223372036854775807) (_h2 : -9223372036854775808 ≤ b ∧ b ≤ 9223372036854775807) : Calls Try.prog 7 #[.int .i64 a, .int .i64 b] w fun e w' => e = .returned (.bool true) ∧ Below w.heap.size w w' :=
  both_ok (nine (P := fun m q => one 7 [] m q = true) sums_00 sums_01 sums_02 sums_03 sums_04 sums_10 sums_11 sums_12 sums_13) a b 0 (vs := #[.int .i64 a, .int .i64 b]) ⟨rfl, rfl, trivial⟩ w
end Go.Proofs.Ytcjeebbfgogfgaa
