/-
  'NordScales': whatever it is given.
-/
import Derived.Test.YtkncchofgehnpaaNordScales0
import Derived.Test.YtkncchofgehnpaaNordScales1
import Derived.Test.YtkncchofgehnpaaNordScales2
namespace Go.Proofs.Ytkncchofgehnpaa
open Go.RowKit Ex
theorem nordScales_all_iizii : ∀ t, t ∈ tabs [(0, 5), (1, 3)] → lawRun 6 10 200 [.i, .i, .z, .i, .i] t = true := by
  intro t ht
  simp only [tabs, List.range, List.range.loop, List.flatMap_cons, List.flatMap_nil, List.map_cons, List.map_nil, List.append_nil, List.cons_append, List.nil_append, List.mem_cons, List.not_mem_nil, or_false] at ht
  rcases ht with rfl | rfl | rfl | rfl | rfl | rfl | rfl | rfl | rfl | rfl | rfl | rfl | rfl | rfl | rfl
  · exact nordScales_iizii_0_0
  · exact nordScales_iizii_0_1
  · exact nordScales_iizii_0_2
  · exact nordScales_iizii_1_0
  · exact nordScales_iizii_1_1
  · exact nordScales_iizii_1_2
  · exact nordScales_iizii_2_0
  · exact nordScales_iizii_2_1
  · exact nordScales_iizii_2_2
  · exact nordScales_iizii_3_0
  · exact nordScales_iizii_3_1
  · exact nordScales_iizii_3_2
  · exact nordScales_iizii_4_0
  · exact nordScales_iizii_4_1
  · exact nordScales_iizii_4_2
theorem nordScales_all_iiqii : ∀ t, t ∈ tabs [(0, 5), (1, 3)] → lawRun 6 10 200 [.i, .i, .q, .i, .i] t = true := by
  intro t ht
  simp only [tabs, List.range, List.range.loop, List.flatMap_cons, List.flatMap_nil, List.map_cons, List.map_nil, List.append_nil, List.cons_append, List.nil_append, List.mem_cons, List.not_mem_nil, or_false] at ht
  rcases ht with rfl | rfl | rfl | rfl | rfl | rfl | rfl | rfl | rfl | rfl | rfl | rfl | rfl | rfl | rfl
  · exact nordScales_iiqii_0_0
  · exact nordScales_iiqii_0_1
  · exact nordScales_iiqii_0_2
  · exact nordScales_iiqii_1_0
  · exact nordScales_iiqii_1_1
  · exact nordScales_iiqii_1_2
  · exact nordScales_iiqii_2_0
  · exact nordScales_iiqii_2_1
  · exact nordScales_iiqii_2_2
  · exact nordScales_iiqii_3_0
  · exact nordScales_iiqii_3_1
  · exact nordScales_iiqii_3_2
  · exact nordScales_iiqii_4_0
  · exact nordScales_iiqii_4_1
  · exact nordScales_iiqii_4_2
theorem nordScales_any (a0 : Int) (a1 : Int) (v2 : Value) (zs2 : List Int) (a3 : Int) (a4 : Int) (w : World) (_h0 : -9223372036854775808 ≤ a0 ∧ a0 ≤ 9223372036854775807) (_h1 : -9223372036854775808 ≤ a1 ∧ a1 ≤ 9223372036854775807) (h2 : Ints w v2 zs2) (_h3 : -9223372036854775808 ≤ a3 ∧ a3 ≤ 9223372036854775807) (_h4 : -9223372036854775808 ≤ a4 ∧ a4 ≤ 9223372036854775807) :
    Calls Try.prog 6 #[.int .i64 a0, .int .i64 a1, v2, .int .i64 a3, .int .i64 a4] w fun e w' => e = .returned (.bool true) ∧ Below w.heap.size w w' := by
  refine law_of (ds := [.i a0, .i a1, .is zs2, .i a3, .i a4]) (nx0 := 10) (k := 200) (l := [(0, 5), (1, 3)]) (by simp) (by decide) (vs := #[.int .i64 a0, .int .i64 a1, v2, .int .i64 a3, .int .i64 a4]) ⟨rfl, rfl, h2, rfl, rfl, trivial⟩ fun ks hk => ?_
  simp only [List.map_cons, List.map_nil, AD.kind, shapes, shapes1, List.flatMap_cons, List.flatMap_nil, List.append_nil, List.cons_append, List.nil_append, List.mem_cons, List.not_mem_nil, or_false] at hk
  rcases hk with rfl | rfl
  · exact nordScales_all_iizii
  · exact nordScales_all_iiqii
end Go.Proofs.Ytkncchofgehnpaa
