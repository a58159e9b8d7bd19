/-
  'CorrLine': whatever it is given.
-/
import Derived.Test.YtclhgnhbmlkomaaCorrLine0
import Derived.Test.YtclhgnhbmlkomaaCorrLine1
import Derived.Test.YtclhgnhbmlkomaaCorrLine2
import Derived.Test.YtclhgnhbmlkomaaCorrLine3
import Derived.Test.YtclhgnhbmlkomaaCorrLine4
import Derived.Test.YtclhgnhbmlkomaaCorrLine5
import Derived.Test.YtclhgnhbmlkomaaCorrLine6
import Derived.Test.YtclhgnhbmlkomaaCorrLine7
import Derived.Test.YtclhgnhbmlkomaaCorrLine8
import Derived.Test.YtclhgnhbmlkomaaCorrLine9
import Derived.Test.YtclhgnhbmlkomaaCorrLine10
import Derived.Test.YtclhgnhbmlkomaaCorrLine11
import Derived.Test.YtclhgnhbmlkomaaCorrLine12
import Derived.Test.YtclhgnhbmlkomaaCorrLine13
import Derived.Test.YtclhgnhbmlkomaaCorrLine14
import Derived.Test.YtclhgnhbmlkomaaCorrLine15
namespace Go.Proofs.Ytclhgnhbmlkomaa
open Go.RowKit Ex
theorem corrLine_all_iiiiii : ∀ t, t ∈ tabs [(3, 2), (4, 4), (5, 20)] → lawRun 9 10 200 [.i, .i, .i, .i, .i, .i] t = true := by
  intro t ht
  simp only [tabs, List.range, List.range.loop, List.flatMap_cons, List.flatMap_nil, List.map_cons, List.map_nil, List.append_nil, List.cons_append, List.nil_append, List.mem_cons, List.not_mem_nil, or_false] at ht
  rcases ht with rfl | rfl | rfl | rfl | rfl | rfl | rfl | rfl | rfl | rfl | rfl | rfl | rfl | rfl | rfl | rfl | rfl | rfl | rfl | rfl | rfl | rfl | rfl | rfl | rfl | rfl | rfl | rfl | rfl | rfl | rfl | rfl | rfl | rfl | rfl | rfl | rfl | rfl | rfl | rfl | rfl | rfl | rfl | rfl | rfl | rfl | rfl | rfl | rfl | rfl | rfl | rfl | rfl | rfl | rfl | rfl | rfl | rfl | rfl | rfl | rfl | rfl | rfl | rfl | rfl | rfl | rfl | rfl | rfl | rfl | rfl | rfl | rfl | rfl | rfl | rfl | rfl | rfl | rfl | rfl | rfl | rfl | rfl | rfl | rfl | rfl | rfl | rfl | rfl | rfl | rfl | rfl | rfl | rfl | rfl | rfl | rfl | rfl | rfl | rfl | rfl | rfl | rfl | rfl | rfl | rfl | rfl | rfl | rfl | rfl | rfl | rfl | rfl | rfl | rfl | rfl | rfl | rfl | rfl | rfl | rfl | rfl | rfl | rfl | rfl | rfl | rfl | rfl | rfl | rfl | rfl | rfl | rfl | rfl | rfl | rfl | rfl | rfl | rfl | rfl | rfl | rfl | rfl | rfl | rfl | rfl | rfl | rfl | rfl | rfl | rfl | rfl | rfl | rfl | rfl | rfl | rfl | rfl | rfl | rfl
  · exact corrLine_iiiiii_0_0_0
  · exact corrLine_iiiiii_0_0_1
  · exact corrLine_iiiiii_0_0_2
  · exact corrLine_iiiiii_0_0_3
  · exact corrLine_iiiiii_0_0_4
  · exact corrLine_iiiiii_0_0_5
  · exact corrLine_iiiiii_0_0_6
  · exact corrLine_iiiiii_0_0_7
  · exact corrLine_iiiiii_0_0_8
  · exact corrLine_iiiiii_0_0_9
  · exact corrLine_iiiiii_0_0_10
  · exact corrLine_iiiiii_0_0_11
  · exact corrLine_iiiiii_0_0_12
  · exact corrLine_iiiiii_0_0_13
  · exact corrLine_iiiiii_0_0_14
  · exact corrLine_iiiiii_0_0_15
  · exact corrLine_iiiiii_0_0_16
  · exact corrLine_iiiiii_0_0_17
  · exact corrLine_iiiiii_0_0_18
  · exact corrLine_iiiiii_0_0_19
  · exact corrLine_iiiiii_0_1_0
  · exact corrLine_iiiiii_0_1_1
  · exact corrLine_iiiiii_0_1_2
  · exact corrLine_iiiiii_0_1_3
  · exact corrLine_iiiiii_0_1_4
  · exact corrLine_iiiiii_0_1_5
  · exact corrLine_iiiiii_0_1_6
  · exact corrLine_iiiiii_0_1_7
  · exact corrLine_iiiiii_0_1_8
  · exact corrLine_iiiiii_0_1_9
  · exact corrLine_iiiiii_0_1_10
  · exact corrLine_iiiiii_0_1_11
  · exact corrLine_iiiiii_0_1_12
  · exact corrLine_iiiiii_0_1_13
  · exact corrLine_iiiiii_0_1_14
  · exact corrLine_iiiiii_0_1_15
  · exact corrLine_iiiiii_0_1_16
  · exact corrLine_iiiiii_0_1_17
  · exact corrLine_iiiiii_0_1_18
  · exact corrLine_iiiiii_0_1_19
  · exact corrLine_iiiiii_0_2_0
  · exact corrLine_iiiiii_0_2_1
  · exact corrLine_iiiiii_0_2_2
  · exact corrLine_iiiiii_0_2_3
  · exact corrLine_iiiiii_0_2_4
  · exact corrLine_iiiiii_0_2_5
  · exact corrLine_iiiiii_0_2_6
  · exact corrLine_iiiiii_0_2_7
  · exact corrLine_iiiiii_0_2_8
  · exact corrLine_iiiiii_0_2_9
  · exact corrLine_iiiiii_0_2_10
  · exact corrLine_iiiiii_0_2_11
  · exact corrLine_iiiiii_0_2_12
  · exact corrLine_iiiiii_0_2_13
  · exact corrLine_iiiiii_0_2_14
  · exact corrLine_iiiiii_0_2_15
  · exact corrLine_iiiiii_0_2_16
  · exact corrLine_iiiiii_0_2_17
  · exact corrLine_iiiiii_0_2_18
  · exact corrLine_iiiiii_0_2_19
  · exact corrLine_iiiiii_0_3_0
  · exact corrLine_iiiiii_0_3_1
  · exact corrLine_iiiiii_0_3_2
  · exact corrLine_iiiiii_0_3_3
  · exact corrLine_iiiiii_0_3_4
  · exact corrLine_iiiiii_0_3_5
  · exact corrLine_iiiiii_0_3_6
  · exact corrLine_iiiiii_0_3_7
  · exact corrLine_iiiiii_0_3_8
  · exact corrLine_iiiiii_0_3_9
  · exact corrLine_iiiiii_0_3_10
  · exact corrLine_iiiiii_0_3_11
  · exact corrLine_iiiiii_0_3_12
  · exact corrLine_iiiiii_0_3_13
  · exact corrLine_iiiiii_0_3_14
  · exact corrLine_iiiiii_0_3_15
  · exact corrLine_iiiiii_0_3_16
  · exact corrLine_iiiiii_0_3_17
  · exact corrLine_iiiiii_0_3_18
  · exact corrLine_iiiiii_0_3_19
  · exact corrLine_iiiiii_1_0_0
  · exact corrLine_iiiiii_1_0_1
  · exact corrLine_iiiiii_1_0_2
  · exact corrLine_iiiiii_1_0_3
  · exact corrLine_iiiiii_1_0_4
  · exact corrLine_iiiiii_1_0_5
  · exact corrLine_iiiiii_1_0_6
  · exact corrLine_iiiiii_1_0_7
  · exact corrLine_iiiiii_1_0_8
  · exact corrLine_iiiiii_1_0_9
  · exact corrLine_iiiiii_1_0_10
  · exact corrLine_iiiiii_1_0_11
  · exact corrLine_iiiiii_1_0_12
  · exact corrLine_iiiiii_1_0_13
  · exact corrLine_iiiiii_1_0_14
  · exact corrLine_iiiiii_1_0_15
  · exact corrLine_iiiiii_1_0_16
  · exact corrLine_iiiiii_1_0_17
  · exact corrLine_iiiiii_1_0_18
  · exact corrLine_iiiiii_1_0_19
  · exact corrLine_iiiiii_1_1_0
  · exact corrLine_iiiiii_1_1_1
  · exact corrLine_iiiiii_1_1_2
  · exact corrLine_iiiiii_1_1_3
  · exact corrLine_iiiiii_1_1_4
  · exact corrLine_iiiiii_1_1_5
  · exact corrLine_iiiiii_1_1_6
  · exact corrLine_iiiiii_1_1_7
  · exact corrLine_iiiiii_1_1_8
  · exact corrLine_iiiiii_1_1_9
  · exact corrLine_iiiiii_1_1_10
  · exact corrLine_iiiiii_1_1_11
  · exact corrLine_iiiiii_1_1_12
  · exact corrLine_iiiiii_1_1_13
  · exact corrLine_iiiiii_1_1_14
  · exact corrLine_iiiiii_1_1_15
  · exact corrLine_iiiiii_1_1_16
  · exact corrLine_iiiiii_1_1_17
  · exact corrLine_iiiiii_1_1_18
  · exact corrLine_iiiiii_1_1_19
  · exact corrLine_iiiiii_1_2_0
  · exact corrLine_iiiiii_1_2_1
  · exact corrLine_iiiiii_1_2_2
  · exact corrLine_iiiiii_1_2_3
  · exact corrLine_iiiiii_1_2_4
  · exact corrLine_iiiiii_1_2_5
  · exact corrLine_iiiiii_1_2_6
  · exact corrLine_iiiiii_1_2_7
  · exact corrLine_iiiiii_1_2_8
  · exact corrLine_iiiiii_1_2_9
  · exact corrLine_iiiiii_1_2_10
  · exact corrLine_iiiiii_1_2_11
  · exact corrLine_iiiiii_1_2_12
  · exact corrLine_iiiiii_1_2_13
  · exact corrLine_iiiiii_1_2_14
  · exact corrLine_iiiiii_1_2_15
  · exact corrLine_iiiiii_1_2_16
  · exact corrLine_iiiiii_1_2_17
  · exact corrLine_iiiiii_1_2_18
  · exact corrLine_iiiiii_1_2_19
  · exact corrLine_iiiiii_1_3_0
  · exact corrLine_iiiiii_1_3_1
  · exact corrLine_iiiiii_1_3_2
  · exact corrLine_iiiiii_1_3_3
  · exact corrLine_iiiiii_1_3_4
  · exact corrLine_iiiiii_1_3_5
  · exact corrLine_iiiiii_1_3_6
  · exact corrLine_iiiiii_1_3_7
  · exact corrLine_iiiiii_1_3_8
  · exact corrLine_iiiiii_1_3_9
  · exact corrLine_iiiiii_1_3_10
  · exact corrLine_iiiiii_1_3_11
  · exact corrLine_iiiiii_1_3_12
  · exact corrLine_iiiiii_1_3_13
  · exact corrLine_iiiiii_1_3_14
  · exact corrLine_iiiiii_1_3_15
  · exact corrLine_iiiiii_1_3_16
  · exact corrLine_iiiiii_1_3_17
  · exact corrLine_iiiiii_1_3_18
  · exact corrLine_iiiiii_1_3_19
theorem corrLine_any (a0 : Int) (a1 : Int) (a2 : Int) (a3 : Int) (a4 : Int) (a5 : Int) (w : World) (_h0 : -9223372036854775808 ≤ a0 ∧ a0 ≤ 9223372036854775807) (_h1 : -9223372036854775808 ≤ a1 ∧ a1 ≤ 9223372036854775807) (_h2 : -9223372036854775808 ≤ a2 ∧ a2 ≤ 9223372036854775807) (_h3 : -9223372036854775808 ≤ a3 ∧ a3 ≤ 9223372036854775807) (_h4 : -9223372036854775808 ≤ a4 ∧ a4 ≤ 9223372036854775807) (_h5 : -9223372036854775808 ≤ a5 ∧ a5 ≤ 9223372036854775807) :
    Calls Try.prog 9 #[.int .i64 a0, .int .i64 a1, .int .i64 a2, .int .i64 a3, .int .i64 a4, .int .i64 a5] w fun e w' => e = .returned (.bool true) ∧ Below w.heap.size w w' := by
  refine law_of (ds := [.i a0, .i a1, .i a2, .i a3, .i a4, .i a5]) (nx0 := 10) (k := 200) (l := [(3, 2), (4, 4), (5, 20)]) (by simp) (by decide) (vs := #[.int .i64 a0, .int .i64 a1, .int .i64 a2, .int .i64 a3, .int .i64 a4, .int .i64 a5]) ⟨rfl, rfl, rfl, rfl, rfl, rfl, trivial⟩ fun ks hk => ?_
  simp only [List.map_cons, List.map_nil, AD.kind, shapes, shapes1, List.flatMap_cons, List.flatMap_nil, List.append_nil, List.cons_append, List.nil_append, List.mem_cons, List.not_mem_nil, or_false] at hk
  rcases hk with rfl
  · exact corrLine_all_iiiiii
end Go.Proofs.Ytclhgnhbmlkomaa
