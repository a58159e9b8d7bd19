/-
  Polynomials with what is left: powers multiplied are powers, as far as there are.
-/
import Derived.Test.YtmmpgglbeaofkaaMol0
import Derived.Test.YtmmpgglbeaofkaaMol1
import Derived.Test.YtmmpgglbeaofkaaMol2
import Derived.Test.YtmmpgglbeaofkaaMol3
import Derived.Test.YtmmpgglbeaofkaaMol4
import Derived.Test.YtmmpgglbeaofkaaMol5
import Derived.Test.YtmmpgglbeaofkaaMol6
import Derived.Test.YtmmpgglbeaofkaaMol7
import Derived.Test.YtmmpgglbeaofkaaMol8
namespace Go.Proofs.Ytmmpgglbeaofkaa
open Go.RowKit Ex
theorem line_all (a b : Nat) (ha : a < 9) (hb : b < 9) : lineRun a b = true := by
  match a, ha with
  | 0, _ => exact line_0 b hb
  | 1, _ => exact line_1 b hb
  | 2, _ => exact line_2 b hb
  | 3, _ => exact line_3 b hb
  | 4, _ => exact line_4 b hb
  | 5, _ => exact line_5 b hb
  | 6, _ => exact line_6 b hb
  | 7, _ => exact line_7 b hb
  | 8, _ => exact line_8 b hb
  | n + 9, h => omega
theorem modelLine_any (a b : Int) (w : World) (_h : -9223372036854775808 ≤ a ∧ a ≤ 9223372036854775807) (_h2 : -9223372036854775808 ≤ b ∧ b ≤ 9223372036854775807) : Calls Try.prog 11 #[.int .i64 a, .int .i64 b] w fun e w' => e = .returned (.bool true) ∧ Below w.heap.size w w' := by
  obtain ⟨k, hk, he⟩ := emod_cases a 9 (by decide)
  obtain ⟨q, hq, he2⟩ := emod_cases b 9 (by decide)
  exact law_runK known5 (V := V3 a b 0) (tab2 he he2) (line_all k q hk hq) (vs := #[.int .i64 a, .int .i64 b]) ⟨rfl, rfl, trivial⟩ w
end Go.Proofs.Ytmmpgglbeaofkaa
