/-
  Rows of derivatives: nothing that was handed in is changed.
-/
import Derived.Test.YtkncchofgehnpaaNod0
import Derived.Test.YtkncchofgehnpaaNod1
import Derived.Test.YtkncchofgehnpaaNod2
import Derived.Test.YtkncchofgehnpaaNod3
import Derived.Test.YtkncchofgehnpaaNod4
namespace Go.Proofs.Ytkncchofgehnpaa
open Go.RowKit Ex
theorem nordOwn_any (a b : Int) (v : Value) (zs : List Int) (c : Int) (w : World) (_h : -9223372036854775808 ≤ a ∧ a ≤ 9223372036854775807) (_h2 : -9223372036854775808 ≤ b ∧ b ≤ 9223372036854775807) (hz : Ints w v zs) (_h3 : -9223372036854775808 ≤ c ∧ c ≤ 9223372036854775807) :
    Calls Try.prog 8 #[.int .i64 a, .int .i64 b, v, .int .i64 c] w fun e w' => e = .returned (.bool true) ∧ Below w.heap.size w w' :=
  nordOwn_of (fifteen own_o_0 own_o_1 own_o_2 own_o_3 own_o_4) (fifteen own_i_0 own_i_1 own_i_2 own_i_3 own_i_4) a b v zs c w hz
end Go.Proofs.Ytkncchofgehnpaa
