/-
  'TapeSums': whatever it is given.
-/
import Derived.Test.YticbgaflhiokgaaTapeSums0
namespace Go.Proofs.Yticbgaflhiokgaa
open Go.RowKit Ex
theorem tapeSums_all_zi : ∀ t, t ∈ tabs [(1, 4)] → lawRun 11 10 200 [.z, .i] t = true := by
  intro t ht
  simp only [tabs, List.range, List.range.loop, List.flatMap_cons, List.flatMap_nil, List.map_cons, List.map_nil, List.append_nil, List.cons_append, List.nil_append, List.mem_cons, List.not_mem_nil, or_false] at ht
  rcases ht with rfl | rfl | rfl | rfl
  · exact tapeSums_zi_0
  · exact tapeSums_zi_1
  · exact tapeSums_zi_2
  · exact tapeSums_zi_3
theorem tapeSums_all_qi : ∀ t, t ∈ tabs [(1, 4)] → lawRun 11 10 200 [.q, .i] t = true := by
  intro t ht
  simp only [tabs, List.range, List.range.loop, List.flatMap_cons, List.flatMap_nil, List.map_cons, List.map_nil, List.append_nil, List.cons_append, List.nil_append, List.mem_cons, List.not_mem_nil, or_false] at ht
  rcases ht with rfl | rfl | rfl | rfl
  · exact tapeSums_qi_0
  · exact tapeSums_qi_1
  · exact tapeSums_qi_2
  · exact tapeSums_qi_3
theorem tapeSums_any (v0 : Value) (zs0 : List Int) (a1 : Int) (w : World) (h0 : Ints w v0 zs0) (_h1 : -9223372036854775808 ≤ a1 ∧ a1 ≤ 9223372036854775807) :
    Calls Try.prog 11 #[v0, .int .i64 a1] w fun e w' => e = .returned (.bool true) ∧ Below w.heap.size w w' := by
  refine law_of (ds := [.is zs0, .i a1]) (nx0 := 10) (k := 200) (l := [(1, 4)]) (by simp) (by decide) (vs := #[v0, .int .i64 a1]) ⟨h0, rfl, trivial⟩ fun ks hk => ?_
  simp only [List.map_cons, List.map_nil, AD.kind, shapes, shapes1, List.flatMap_cons, List.flatMap_nil, List.append_nil, List.cons_append, List.nil_append, List.mem_cons, List.not_mem_nil, or_false] at hk
  rcases hk with rfl | rfl
  · exact tapeSums_all_zi
  · exact tapeSums_all_qi
end Go.Proofs.Yticbgaflhiokgaa
