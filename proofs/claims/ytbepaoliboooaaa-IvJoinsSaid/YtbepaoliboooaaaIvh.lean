/-
  From-tos joined, of whatever numbers.
-/
import Derived.Test.YtbepaoliboooaaaIvg
namespace Go.Proofs.Ytbepaoliboooaaa
open Go.RowKit
theorem ivJoins_all (m k v n j u : Int) (x : Nat) (w : World) (h1 : -9223372036854775808 ≤ m ∧ m ≤ 9223372036854775807) (_h2 : -9223372036854775808 ≤ k ∧ k ≤ 9223372036854775807) (_h3 : -9223372036854775808 ≤ v ∧ v ≤ 9223372036854775807) (_h4 : -9223372036854775808 ≤ n ∧ n ≤ 9223372036854775807) (_h5 : -9223372036854775808 ≤ j ∧ j ≤ 9223372036854775807) (_h6 : -9223372036854775808 ≤ u ∧ u ≤ 9223372036854775807) (_h7 : x < 18446744073709551616) :
    Calls Try.prog 10 #[.int .i64 m, .int .i64 k, .int .i64 v, .int .i64 n, .int .i64 j, .int .i64 u, .float .f64 x] w fun e w' => e = .returned (.bool true) ∧ Below w.heap.size w w' :=
  ivJoins_walk m k v n j u x w h1
end Go.Proofs.Ytbepaoliboooaaa
