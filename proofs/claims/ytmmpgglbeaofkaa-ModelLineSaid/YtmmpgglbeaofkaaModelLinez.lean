/-
  'ModelLine': whatever it is given.
-/
import Derived.Test.YtmmpgglbeaofkaaModelLine0
import Derived.Test.YtmmpgglbeaofkaaModelLine1
import Derived.Test.YtmmpgglbeaofkaaModelLine2
import Derived.Test.YtmmpgglbeaofkaaModelLine3
import Derived.Test.YtmmpgglbeaofkaaModelLine4
import Derived.Test.YtmmpgglbeaofkaaModelLine5
namespace Go.Proofs.Ytmmpgglbeaofkaa
open Go.RowKit Ex
theorem modelLine_all_ii : ∀ t, t ∈ tabs [(0, 9), (1, 9)] → lawRun 11 10 200 [.i, .i] t = true := by
  intro t ht
  simp only [tabs, List.range, List.range.loop, List.flatMap_cons, List.flatMap_nil, List.map_cons, List.map_nil, List.append_nil, List.cons_append, List.nil_append, List.mem_cons, List.not_mem_nil, or_false] at ht
  rcases ht with rfl | rfl | rfl | rfl | rfl | rfl | rfl | rfl | rfl | rfl | rfl | rfl | rfl | rfl | rfl | rfl | rfl | rfl | rfl | rfl | rfl | rfl | rfl | rfl | rfl | rfl | rfl | rfl | rfl | rfl | rfl | rfl | rfl | rfl | rfl | rfl | rfl | rfl | rfl | rfl | rfl | rfl | rfl | rfl | rfl | rfl | rfl | rfl | rfl | rfl | rfl | rfl | rfl | rfl | rfl | rfl | rfl | rfl | rfl | rfl | rfl | rfl | rfl | rfl | rfl | rfl | rfl | rfl | rfl | rfl | rfl | rfl | rfl | rfl | rfl | rfl | rfl | rfl | rfl | rfl | rfl
  · exact modelLine_ii_0_0
  · exact modelLine_ii_0_1
  · exact modelLine_ii_0_2
  · exact modelLine_ii_0_3
  · exact modelLine_ii_0_4
  · exact modelLine_ii_0_5
  · exact modelLine_ii_0_6
  · exact modelLine_ii_0_7
  · exact modelLine_ii_0_8
  · exact modelLine_ii_1_0
  · exact modelLine_ii_1_1
  · exact modelLine_ii_1_2
  · exact modelLine_ii_1_3
  · exact modelLine_ii_1_4
  · exact modelLine_ii_1_5
  · exact modelLine_ii_1_6
  · exact modelLine_ii_1_7
  · exact modelLine_ii_1_8
  · exact modelLine_ii_2_0
  · exact modelLine_ii_2_1
  · exact modelLine_ii_2_2
  · exact modelLine_ii_2_3
  · exact modelLine_ii_2_4
  · exact modelLine_ii_2_5
  · exact modelLine_ii_2_6
  · exact modelLine_ii_2_7
  · exact modelLine_ii_2_8
  · exact modelLine_ii_3_0
  · exact modelLine_ii_3_1
  · exact modelLine_ii_3_2
  · exact modelLine_ii_3_3
  · exact modelLine_ii_3_4
  · exact modelLine_ii_3_5
  · exact modelLine_ii_3_6
  · exact modelLine_ii_3_7
  · exact modelLine_ii_3_8
  · exact modelLine_ii_4_0
  · exact modelLine_ii_4_1
  · exact modelLine_ii_4_2
  · exact modelLine_ii_4_3
  · exact modelLine_ii_4_4
  · exact modelLine_ii_4_5
  · exact modelLine_ii_4_6
  · exact modelLine_ii_4_7
  · exact modelLine_ii_4_8
  · exact modelLine_ii_5_0
  · exact modelLine_ii_5_1
  · exact modelLine_ii_5_2
  · exact modelLine_ii_5_3
  · exact modelLine_ii_5_4
  · exact modelLine_ii_5_5
  · exact modelLine_ii_5_6
  · exact modelLine_ii_5_7
  · exact modelLine_ii_5_8
  · exact modelLine_ii_6_0
  · exact modelLine_ii_6_1
  · exact modelLine_ii_6_2
  · exact modelLine_ii_6_3
  · exact modelLine_ii_6_4
  · exact modelLine_ii_6_5
  · exact modelLine_ii_6_6
  · exact modelLine_ii_6_7
  · exact modelLine_ii_6_8
  · exact modelLine_ii_7_0
  · exact modelLine_ii_7_1
  · exact modelLine_ii_7_2
  · exact modelLine_ii_7_3
  · exact modelLine_ii_7_4
  · exact modelLine_ii_7_5
  · exact modelLine_ii_7_6
  · exact modelLine_ii_7_7
  · exact modelLine_ii_7_8
  · exact modelLine_ii_8_0
  · exact modelLine_ii_8_1
  · exact modelLine_ii_8_2
  · exact modelLine_ii_8_3
  · exact modelLine_ii_8_4
  · exact modelLine_ii_8_5
  · exact modelLine_ii_8_6
  · exact modelLine_ii_8_7
  · exact modelLine_ii_8_8
theorem modelLine_any (a0 : Int) (a1 : Int) (w : World) (_h0 : -9223372036854775808 ≤ a0 ∧ a0 ≤ 9223372036854775807) (_h1 : -9223372036854775808 ≤ a1 ∧ a1 ≤ 9223372036854775807) :
    Calls Try.prog 11 #[.int .i64 a0, .int .i64 a1] w fun e w' => e = .returned (.bool true) ∧ Below w.heap.size w w' := by
  refine law_of (ds := [.i a0, .i a1]) (nx0 := 10) (k := 200) (l := [(0, 9), (1, 9)]) (by simp) (by decide) (vs := #[.int .i64 a0, .int .i64 a1]) ⟨rfl, rfl, trivial⟩ fun ks hk => ?_
  simp only [List.map_cons, List.map_nil, AD.kind, shapes, shapes1, List.flatMap_cons, List.flatMap_nil, List.append_nil, List.cons_append, List.nil_append, List.mem_cons, List.not_mem_nil, or_false] at hk
  rcases hk with rfl
  · exact modelLine_all_ii
end Go.Proofs.Ytmmpgglbeaofkaa
