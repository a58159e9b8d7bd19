/-
  'NordOwn': whatever it is given.
-/
import Derived.Test.YtkncchofgehnpaaNordOwn0
import Derived.Test.YtkncchofgehnpaaNordOwn1
import Derived.Test.YtkncchofgehnpaaNordOwn2
import Derived.Test.YtkncchofgehnpaaNordOwn3
namespace Go.Proofs.Ytkncchofgehnpaa
open Go.RowKit Ex
theorem nordOwn_all_iizi : ∀ t, t ∈ tabs [(0, 5), (1, 3)] → lawRun 8 10 200 [.i, .i, .z, .i] t = true := by
  intro t ht
  simp only [tabs, List.range, List.range.loop, List.flatMap_cons, List.flatMap_nil, List.map_cons, List.map_nil, List.append_nil, List.cons_append, List.nil_append, List.mem_cons, List.not_mem_nil, or_false] at ht
  rcases ht with rfl | rfl | rfl | rfl | rfl | rfl | rfl | rfl | rfl | rfl | rfl | rfl | rfl | rfl | rfl
  · exact nordOwn_iizi_0_0
  · exact nordOwn_iizi_0_1
  · exact nordOwn_iizi_0_2
  · exact nordOwn_iizi_1_0
  · exact nordOwn_iizi_1_1
  · exact nordOwn_iizi_1_2
  · exact nordOwn_iizi_2_0
  · exact nordOwn_iizi_2_1
  · exact nordOwn_iizi_2_2
  · exact nordOwn_iizi_3_0
  · exact nordOwn_iizi_3_1
  · exact nordOwn_iizi_3_2
  · exact nordOwn_iizi_4_0
  · exact nordOwn_iizi_4_1
  · exact nordOwn_iizi_4_2
theorem nordOwn_all_iiqi : ∀ t, t ∈ tabs [(0, 5), (1, 3)] → lawRun 8 10 200 [.i, .i, .q, .i] t = true := by
  intro t ht
  simp only [tabs, List.range, List.range.loop, List.flatMap_cons, List.flatMap_nil, List.map_cons, List.map_nil, List.append_nil, List.cons_append, List.nil_append, List.mem_cons, List.not_mem_nil, or_false] at ht
  rcases ht with rfl | rfl | rfl | rfl | rfl | rfl | rfl | rfl | rfl | rfl | rfl | rfl | rfl | rfl | rfl
  · exact nordOwn_iiqi_0_0
  · exact nordOwn_iiqi_0_1
  · exact nordOwn_iiqi_0_2
  · exact nordOwn_iiqi_1_0
  · exact nordOwn_iiqi_1_1
  · exact nordOwn_iiqi_1_2
  · exact nordOwn_iiqi_2_0
  · exact nordOwn_iiqi_2_1
  · exact nordOwn_iiqi_2_2
  · exact nordOwn_iiqi_3_0
  · exact nordOwn_iiqi_3_1
  · exact nordOwn_iiqi_3_2
  · exact nordOwn_iiqi_4_0
  · exact nordOwn_iiqi_4_1
  · exact nordOwn_iiqi_4_2
theorem nordOwn_any (a0 : Int) (a1 : Int) (v2 : Value) (zs2 : List Int) (a3 : Int) (w : World) (_h0 : -9223372036854775808 ≤ a0 ∧ a0 ≤ 9223372036854775807) (_h1 : -9223372036854775808 ≤ a1 ∧ a1 ≤ 9223372036854775807) (h2 : Ints w v2 zs2) (_h3 : -9223372036854775808 ≤ a3 ∧ a3 ≤ 9223372036854775807) :
    Calls Try.prog 8 #[.int .i64 a0, .int .i64 a1, v2, .int .i64 a3] w fun e w' => e = .returned (.bool true) ∧ Below w.heap.size w w' := by
  refine law_of (ds := [.i a0, .i a1, .is zs2, .i a3]) (nx0 := 10) (k := 200) (l := [(0, 5), (1, 3)]) (by simp) (by decide) (vs := #[.int .i64 a0, .int .i64 a1, v2, .int .i64 a3]) ⟨rfl, rfl, h2, rfl, trivial⟩ fun ks hk => ?_
  simp only [List.map_cons, List.map_nil, AD.kind, shapes, shapes1, List.flatMap_cons, List.flatMap_nil, List.append_nil, List.cons_append, List.nil_append, List.mem_cons, List.not_mem_nil, or_false] at hk
  rcases hk with rfl | rfl
  · exact nordOwn_all_iizi
  · exact nordOwn_all_iiqi
end Go.Proofs.Ytkncchofgehnpaa
