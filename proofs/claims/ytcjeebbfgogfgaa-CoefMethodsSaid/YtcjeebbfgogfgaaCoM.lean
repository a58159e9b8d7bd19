/-
  The methods' numbers: the methods.
-/
import Derived.Test.YtcjeebbfgogfgaaCoa
namespace Go.Proofs.Ytcjeebbfgogfgaa
open Go.RowKit Ex

set_option maxRecDepth 1000000 in
set_option maxHeartbeats 100000000 in
theorem methods_00 : one 4 [] 0 0 = true := by kernel_rfl
set_option maxRecDepth 1000000 in
set_option maxHeartbeats 100000000 in
theorem methods_01 : one 4 [] 0 1 = true := by kernel_rfl
set_option maxRecDepth 1000000 in
set_option maxHeartbeats 100000000 in
theorem methods_02 : one 4 [] 0 2 = true := by kernel_rfl
set_option maxRecDepth 1000000 in
set_option maxHeartbeats 100000000 in
theorem methods_03 : one 4 [] 0 3 = true := by kernel_rfl
set_option maxRecDepth 1000000 in
set_option maxHeartbeats 100000000 in
theorem methods_04 : one 4 [] 0 4 = true := by kernel_rfl
set_option maxRecDepth 1000000 in
set_option maxHeartbeats 100000000 in
theorem methods_10 : one 4 [] 1 0 = true := by kernel_rfl
set_option maxRecDepth 1000000 in
set_option maxHeartbeats 100000000 in
theorem methods_11 : one 4 [] 1 1 = true := by kernel_rfl
set_option maxRecDepth 1000000 in
set_option maxHeartbeats 100000000 in
theorem methods_12 : one 4 [] 1 2 = true := by kernel_rfl
set_option maxRecDepth 1000000 in
set_option maxHeartbeats 100000000 in
theorem methods_13 : one 4 [] 1 3 = true := by kernel_rfl
theorem coefMethods_any (a b : Int) (w : World) (_h : -9223372036854775808 ≤ a ∧ a ≤ 9223372036854775807) (_h2 : -9223372036854775808 ≤ b ∧ b ≤ 9223372036854775807) : Calls Try.prog 4 #[.int .i64 a, .int .i64 b] w fun e w' => e = .returned (.bool true) ∧ Below w.heap.size w w' :=
  both_ok (nine (P := fun m q => one 4 [] m q = true) methods_00 methods_01 methods_02 methods_03 methods_04 methods_10 methods_11 methods_12 methods_13) a b 0 (vs := #[.int .i64 a, .int .i64 b]) ⟨rfl, rfl, trivial⟩ w
end Go.Proofs.Ytcjeebbfgogfgaa
