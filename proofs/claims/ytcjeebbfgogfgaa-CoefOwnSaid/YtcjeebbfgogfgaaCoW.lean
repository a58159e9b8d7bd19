/-
  The methods' numbers: their own law.
-/
import Derived.Test.YtcjeebbfgogfgaaCoa
namespace Go.Proofs.Ytcjeebbfgogfgaa
open Go.RowKit Ex

set_option maxRecDepth 1000000 in
set_option maxHeartbeats 100000000 in
theorem own_00 : one 9 [.c (.ei .i64 (.vi 2))] 0 0 = true := by kernel_rfl
set_option maxRecDepth 1000000 in
set_option maxHeartbeats 100000000 in
theorem own_01 : one 9 [.c (.ei .i64 (.vi 2))] 0 1 = true := by kernel_rfl
set_option maxRecDepth 1000000 in
set_option maxHeartbeats 100000000 in
theorem own_02 : one 9 [.c (.ei .i64 (.vi 2))] 0 2 = true := by kernel_rfl
set_option maxRecDepth 1000000 in
set_option maxHeartbeats 100000000 in
theorem own_03 : one 9 [.c (.ei .i64 (.vi 2))] 0 3 = true := by kernel_rfl
set_option maxRecDepth 1000000 in
set_option maxHeartbeats 100000000 in
theorem own_04 : one 9 [.c (.ei .i64 (.vi 2))] 0 4 = true := by kernel_rfl
set_option maxRecDepth 1000000 in
set_option maxHeartbeats 100000000 in
theorem own_10 : one 9 [.c (.ei .i64 (.vi 2))] 1 0 = true := by kernel_rfl
set_option maxRecDepth 1000000 in
set_option maxHeartbeats 100000000 in
theorem own_11 : one 9 [.c (.ei .i64 (.vi 2))] 1 1 = true := by kernel_rfl
set_option maxRecDepth 1000000 in
set_option maxHeartbeats 100000000 in
theorem own_12 : one 9 [.c (.ei .i64 (.vi 2))] 1 2 = true := by kernel_rfl
set_option maxRecDepth 1000000 in
set_option maxHeartbeats 100000000 in
theorem own_13 : one 9 [.c (.ei .i64 (.vi 2))] 1 3 = true := by kernel_rfl
theorem coefOwn_any (a b c : Int) (w : World) (_h : -9223372036854775808 ≤ a ∧ a ≤ 9223372036854775807) (_h2 : -9223372036854775808 ≤ b ∧ b ≤ 9223372036854775807) (_h3 : -9223372036854775808 ≤ c ∧ c ≤ 9223372036854775807) : Calls Try.prog 9 #[.int .i64 a, .int .i64 b, .int .i64 c] w fun e w' => e = .returned (.bool true) ∧ Below w.heap.size w w' :=
  both_ok (nine (P := fun m q => one 9 [.c (.ei .i64 (.vi 2))] m q = true) own_00 own_01 own_02 own_03 own_04 own_10 own_11 own_12 own_13) a b c (vs := #[.int .i64 a, .int .i64 b, .int .i64 c]) ⟨rfl, rfl, rfl, trivial⟩ w
end Go.Proofs.Ytcjeebbfgogfgaa
