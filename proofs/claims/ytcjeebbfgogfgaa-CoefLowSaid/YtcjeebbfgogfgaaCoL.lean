/-
  The methods' numbers: the low powers.
-/
import Derived.Test.YtcjeebbfgogfgaaCoa
namespace Go.Proofs.Ytcjeebbfgogfgaa
open Go.RowKit Ex

set_option maxRecDepth 1000000 in
set_option maxHeartbeats 100000000 in
theorem low_00 : one 5 [] 0 0 = true := by kernel_rfl
set_option maxRecDepth 1000000 in
set_option maxHeartbeats 100000000 in
theorem low_01 : one 5 [] 0 1 = true := by kernel_rfl
set_option maxRecDepth 1000000 in
set_option maxHeartbeats 100000000 in
theorem low_02 : one 5 [] 0 2 = true := by kernel_rfl
set_option maxRecDepth 1000000 in
set_option maxHeartbeats 100000000 in
theorem low_03 : one 5 [] 0 3 = true := by kernel_rfl
set_option maxRecDepth 1000000 in
set_option maxHeartbeats 100000000 in
theorem low_04 : one 5 [] 0 4 = true := by kernel_rfl
set_option maxRecDepth 1000000 in
set_option maxHeartbeats 100000000 in
theorem low_10 : one 5 [] 1 0 = true := by kernel_rfl
set_option maxRecDepth 1000000 in
set_option maxHeartbeats 100000000 in
theorem low_11 : one 5 [] 1 1 = true := by kernel_rfl
set_option maxRecDepth 1000000 in
set_option maxHeartbeats 100000000 in
theorem low_12 : one 5 [] 1 2 = true := by kernel_rfl
set_option maxRecDepth 1000000 in
set_option maxHeartbeats 100000000 in
theorem low_13 : one 5 [] 1 3 = true := by kernel_rfl
theorem coefLow_any (a b : Int) (w : World) (_h : -9223372036854775808 ≤ a ∧ a ≤ 9223372036854775807) (_h2 : -9223372036854775808 ≤ b ∧ b ≤ 9223372036854775807) : Calls Try.prog 5 #[.int .i64 a, .int .i64 b] w fun e w' => e = .returned (.bool true) ∧ Below w.heap.size w w' :=
  both_ok (nine (P := fun m q => one 5 [] m q = true) low_00 low_01 low_02 low_03 low_04 low_10 low_11 low_12 low_13) a b 0 (vs := #[.int .i64 a, .int .i64 b]) ⟨rfl, rfl, trivial⟩ w
end Go.Proofs.Ytcjeebbfgogfgaa
