/-
  'NordTop': whatever it is given.
-/
import Derived.Test.YtkncchofgehnpaaNordTop0
import Derived.Test.YtkncchofgehnpaaNordTop1
namespace Go.Proofs.Ytkncchofgehnpaa
open Go.RowKit Ex
theorem nordTop_all_iiz : ∀ t, t ∈ tabs [(0, 5), (1, 3)] → lawRun 11 10 200 [.i, .i, .z] t = true := by
  intro t ht
  simp only [tabs, List.range, List.range.loop, List.flatMap_cons, List.flatMap_nil, List.map_cons, List.map_nil, List.append_nil, List.cons_append, List.nil_append, List.mem_cons, List.not_mem_nil, or_false] at ht
  rcases ht with rfl | rfl | rfl | rfl | rfl | rfl | rfl | rfl | rfl | rfl | rfl | rfl | rfl | rfl | rfl
  · exact nordTop_iiz_0_0
  · exact nordTop_iiz_0_1
  · exact nordTop_iiz_0_2
  · exact nordTop_iiz_1_0
  · exact nordTop_iiz_1_1
  · exact nordTop_iiz_1_2
  · exact nordTop_iiz_2_0
  · exact nordTop_iiz_2_1
  · exact nordTop_iiz_2_2
  · exact nordTop_iiz_3_0
  · exact nordTop_iiz_3_1
  · exact nordTop_iiz_3_2
  · exact nordTop_iiz_4_0
  · exact nordTop_iiz_4_1
  · exact nordTop_iiz_4_2
theorem nordTop_all_iiq : ∀ t, t ∈ tabs [(0, 5), (1, 3)] → lawRun 11 10 200 [.i, .i, .q] t = true := by
  intro t ht
  simp only [tabs, List.range, List.range.loop, List.flatMap_cons, List.flatMap_nil, List.map_cons, List.map_nil, List.append_nil, List.cons_append, List.nil_append, List.mem_cons, List.not_mem_nil, or_false] at ht
  rcases ht with rfl | rfl | rfl | rfl | rfl | rfl | rfl | rfl | rfl | rfl | rfl | rfl | rfl | rfl | rfl
  · exact nordTop_iiq_0_0
  · exact nordTop_iiq_0_1
  · exact nordTop_iiq_0_2
  · exact nordTop_iiq_1_0
  · exact nordTop_iiq_1_1
  · exact nordTop_iiq_1_2
  · exact nordTop_iiq_2_0
  · exact nordTop_iiq_2_1
  · exact nordTop_iiq_2_2
  · exact nordTop_iiq_3_0
  · exact nordTop_iiq_3_1
  · exact nordTop_iiq_3_2
  · exact nordTop_iiq_4_0
  · exact nordTop_iiq_4_1
  · exact nordTop_iiq_4_2
theorem nordTop_any (a0 : Int) (a1 : Int) (v2 : Value) (zs2 : List Int) (w : World) (_h0 : -9223372036854775808 ≤ a0 ∧ a0 ≤ 9223372036854775807) (_h1 : -9223372036854775808 ≤ a1 ∧ a1 ≤ 9223372036854775807) (h2 : Ints w v2 zs2) :
    Calls Try.prog 11 #[.int .i64 a0, .int .i64 a1, v2] w fun e w' => e = .returned (.bool true) ∧ Below w.heap.size w w' := by
  refine law_of (ds := [.i a0, .i a1, .is zs2]) (nx0 := 10) (k := 200) (l := [(0, 5), (1, 3)]) (by simp) (by decide) (vs := #[.int .i64 a0, .int .i64 a1, v2]) ⟨rfl, rfl, h2, trivial⟩ fun ks hk => ?_
  simp only [List.map_cons, List.map_nil, AD.kind, shapes, shapes1, List.flatMap_cons, List.flatMap_nil, List.append_nil, List.cons_append, List.nil_append, List.mem_cons, List.not_mem_nil, or_false] at hk
  rcases hk with rfl | rfl
  · exact nordTop_all_iiz
  · exact nordTop_all_iiq
end Go.Proofs.Ytkncchofgehnpaa
