/-
  'NordSums': whatever it is given.
-/
import Derived.Test.YtkncchofgehnpaaNordSums0
import Derived.Test.YtkncchofgehnpaaNordSums1
import Derived.Test.YtkncchofgehnpaaNordSums2
import Derived.Test.YtkncchofgehnpaaNordSums3
import Derived.Test.YtkncchofgehnpaaNordSums4
import Derived.Test.YtkncchofgehnpaaNordSums5
import Derived.Test.YtkncchofgehnpaaNordSums6
import Derived.Test.YtkncchofgehnpaaNordSums7
import Derived.Test.YtkncchofgehnpaaNordSums8
import Derived.Test.YtkncchofgehnpaaNordSums9
import Derived.Test.YtkncchofgehnpaaNordSums10
import Derived.Test.YtkncchofgehnpaaNordSums11
namespace Go.Proofs.Ytkncchofgehnpaa
open Go.RowKit Ex
theorem nordSums_all_iizzi : ∀ t, t ∈ tabs [(0, 5), (1, 3)] → lawRun 9 10 200 [.i, .i, .z, .z, .i] t = true := by
  intro t ht
  simp only [tabs, List.range, List.range.loop, List.flatMap_cons, List.flatMap_nil, List.map_cons, List.map_nil, List.append_nil, List.cons_append, List.nil_append, List.mem_cons, List.not_mem_nil, or_false] at ht
  rcases ht with rfl | rfl | rfl | rfl | rfl | rfl | rfl | rfl | rfl | rfl | rfl | rfl | rfl | rfl | rfl
  · exact nordSums_iizzi_0_0
  · exact nordSums_iizzi_0_1
  · exact nordSums_iizzi_0_2
  · exact nordSums_iizzi_1_0
  · exact nordSums_iizzi_1_1
  · exact nordSums_iizzi_1_2
  · exact nordSums_iizzi_2_0
  · exact nordSums_iizzi_2_1
  · exact nordSums_iizzi_2_2
  · exact nordSums_iizzi_3_0
  · exact nordSums_iizzi_3_1
  · exact nordSums_iizzi_3_2
  · exact nordSums_iizzi_4_0
  · exact nordSums_iizzi_4_1
  · exact nordSums_iizzi_4_2
theorem nordSums_all_iizqi : ∀ t, t ∈ tabs [(0, 5), (1, 3)] → lawRun 9 10 200 [.i, .i, .z, .q, .i] t = true := by
  intro t ht
  simp only [tabs, List.range, List.range.loop, List.flatMap_cons, List.flatMap_nil, List.map_cons, List.map_nil, List.append_nil, List.cons_append, List.nil_append, List.mem_cons, List.not_mem_nil, or_false] at ht
  rcases ht with rfl | rfl | rfl | rfl | rfl | rfl | rfl | rfl | rfl | rfl | rfl | rfl | rfl | rfl | rfl
  · exact nordSums_iizqi_0_0
  · exact nordSums_iizqi_0_1
  · exact nordSums_iizqi_0_2
  · exact nordSums_iizqi_1_0
  · exact nordSums_iizqi_1_1
  · exact nordSums_iizqi_1_2
  · exact nordSums_iizqi_2_0
  · exact nordSums_iizqi_2_1
  · exact nordSums_iizqi_2_2
  · exact nordSums_iizqi_3_0
  · exact nordSums_iizqi_3_1
  · exact nordSums_iizqi_3_2
  · exact nordSums_iizqi_4_0
  · exact nordSums_iizqi_4_1
  · exact nordSums_iizqi_4_2
theorem nordSums_all_iiqzi : ∀ t, t ∈ tabs [(0, 5), (1, 3)] → lawRun 9 10 200 [.i, .i, .q, .z, .i] t = true := by
  intro t ht
  simp only [tabs, List.range, List.range.loop, List.flatMap_cons, List.flatMap_nil, List.map_cons, List.map_nil, List.append_nil, List.cons_append, List.nil_append, List.mem_cons, List.not_mem_nil, or_false] at ht
  rcases ht with rfl | rfl | rfl | rfl | rfl | rfl | rfl | rfl | rfl | rfl | rfl | rfl | rfl | rfl | rfl
  · exact nordSums_iiqzi_0_0
  · exact nordSums_iiqzi_0_1
  · exact nordSums_iiqzi_0_2
  · exact nordSums_iiqzi_1_0
  · exact nordSums_iiqzi_1_1
  · exact nordSums_iiqzi_1_2
  · exact nordSums_iiqzi_2_0
  · exact nordSums_iiqzi_2_1
  · exact nordSums_iiqzi_2_2
  · exact nordSums_iiqzi_3_0
  · exact nordSums_iiqzi_3_1
  · exact nordSums_iiqzi_3_2
  · exact nordSums_iiqzi_4_0
  · exact nordSums_iiqzi_4_1
  · exact nordSums_iiqzi_4_2
theorem nordSums_all_iiqqi : ∀ t, t ∈ tabs [(0, 5), (1, 3)] → lawRun 9 10 200 [.i, .i, .q, .q, .i] t = true := by
  intro t ht
  simp only [tabs, List.range, List.range.loop, List.flatMap_cons, List.flatMap_nil, List.map_cons, List.map_nil, List.append_nil, List.cons_append, List.nil_append, List.mem_cons, List.not_mem_nil, or_false] at ht
  rcases ht with rfl | rfl | rfl | rfl | rfl | rfl | rfl | rfl | rfl | rfl | rfl | rfl | rfl | rfl | rfl
  · exact nordSums_iiqqi_0_0
  · exact nordSums_iiqqi_0_1
  · exact nordSums_iiqqi_0_2
  · exact nordSums_iiqqi_1_0
  · exact nordSums_iiqqi_1_1
  · exact nordSums_iiqqi_1_2
  · exact nordSums_iiqqi_2_0
  · exact nordSums_iiqqi_2_1
  · exact nordSums_iiqqi_2_2
  · exact nordSums_iiqqi_3_0
  · exact nordSums_iiqqi_3_1
  · exact nordSums_iiqqi_3_2
  · exact nordSums_iiqqi_4_0
  · exact nordSums_iiqqi_4_1
  · exact nordSums_iiqqi_4_2
theorem nordSums_any (a0 : Int) (a1 : Int) (v2 : Value) (zs2 : List Int) (v3 : Value) (zs3 : List Int) (a4 : Int) (w : World) (_h0 : -9223372036854775808 ≤ a0 ∧ a0 ≤ 9223372036854775807) (_h1 : -9223372036854775808 ≤ a1 ∧ a1 ≤ 9223372036854775807) (h2 : Ints w v2 zs2) (h3 : Ints w v3 zs3) (_h4 : -9223372036854775808 ≤ a4 ∧ a4 ≤ 9223372036854775807) :
    Calls Try.prog 9 #[.int .i64 a0, .int .i64 a1, v2, v3, .int .i64 a4] w fun e w' => e = .returned (.bool true) ∧ Below w.heap.size w w' := by
  refine law_of (ds := [.i a0, .i a1, .is zs2, .is zs3, .i a4]) (nx0 := 10) (k := 200) (l := [(0, 5), (1, 3)]) (by simp) (by decide) (vs := #[.int .i64 a0, .int .i64 a1, v2, v3, .int .i64 a4]) ⟨rfl, rfl, h2, h3, rfl, trivial⟩ fun ks hk => ?_
  simp only [List.map_cons, List.map_nil, AD.kind, shapes, shapes1, List.flatMap_cons, List.flatMap_nil, List.append_nil, List.cons_append, List.nil_append, List.mem_cons, List.not_mem_nil, or_false] at hk
  rcases hk with rfl | rfl | rfl | rfl
  · exact nordSums_all_iizzi
  · exact nordSums_all_iizqi
  · exact nordSums_all_iiqzi
  · exact nordSums_all_iiqqi
end Go.Proofs.Ytkncchofgehnpaa
