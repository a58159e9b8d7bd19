/-
  From-tos within others, of whatever numbers.
-/
import Derived.Test.YtbepaoliboooaaaIvf
namespace Go.Proofs.Ytbepaoliboooaaa
open Go.RowKit
theorem ivWithin_all (m k v p q r t : Int) (w : World) (h1 : -9223372036854775808 ≤ m ∧ m ≤ 9223372036854775807) (_h2 : -9223372036854775808 ≤ k ∧ k ≤ 9223372036854775807) (_h3 : -9223372036854775808 ≤ v ∧ v ≤ 9223372036854775807) (_h4 : -9223372036854775808 ≤ p ∧ p ≤ 9223372036854775807) (_h5 : -9223372036854775808 ≤ q ∧ q ≤ 9223372036854775807) (_h6 : -9223372036854775808 ≤ r ∧ r ≤ 9223372036854775807) (_h7 : -9223372036854775808 ≤ t ∧ t ≤ 9223372036854775807) :
    Calls Try.prog 11 #[.int .i64 m, .int .i64 k, .int .i64 v, .int .i64 p, .int .i64 q, .int .i64 r, .int .i64 t] w fun e w' => e = .returned (.bool true) ∧ Below w.heap.size w w' :=
  ivWithin_walk m k v p q r t w h1
end Go.Proofs.Ytbepaoliboooaaa
