/-
  'LinUpper': whatever it is given.
-/
import Derived.Test.YtainodgbcpkipaaLinUpper0
import Derived.Test.YtainodgbcpkipaaLinUpper1
namespace Go.Proofs.Ytainodgbcpkipaa
open Go.RowKit Ex
theorem linUpper_all_izz : ∀ t, t ∈ tabs [(0, 5)] → lawRun 10 10 200 [.i, .z, .z] t = true := by
  intro t ht
  simp only [tabs, List.range, List.range.loop, List.flatMap_cons, List.flatMap_nil, List.map_cons, List.map_nil, List.append_nil, List.cons_append, List.nil_append, List.mem_cons, List.not_mem_nil, or_false] at ht
  rcases ht with rfl | rfl | rfl | rfl | rfl
  · exact linUpper_izz_0
  · exact linUpper_izz_1
  · exact linUpper_izz_2
  · exact linUpper_izz_3
  · exact linUpper_izz_4
theorem linUpper_all_izq : ∀ t, t ∈ tabs [(0, 5)] → lawRun 10 10 200 [.i, .z, .q] t = true := by
  intro t ht
  simp only [tabs, List.range, List.range.loop, List.flatMap_cons, List.flatMap_nil, List.map_cons, List.map_nil, List.append_nil, List.cons_append, List.nil_append, List.mem_cons, List.not_mem_nil, or_false] at ht
  rcases ht with rfl | rfl | rfl | rfl | rfl
  · exact linUpper_izq_0
  · exact linUpper_izq_1
  · exact linUpper_izq_2
  · exact linUpper_izq_3
  · exact linUpper_izq_4
theorem linUpper_all_iqz : ∀ t, t ∈ tabs [(0, 5)] → lawRun 10 10 200 [.i, .q, .z] t = true := by
  intro t ht
  simp only [tabs, List.range, List.range.loop, List.flatMap_cons, List.flatMap_nil, List.map_cons, List.map_nil, List.append_nil, List.cons_append, List.nil_append, List.mem_cons, List.not_mem_nil, or_false] at ht
  rcases ht with rfl | rfl | rfl | rfl | rfl
  · exact linUpper_iqz_0
  · exact linUpper_iqz_1
  · exact linUpper_iqz_2
  · exact linUpper_iqz_3
  · exact linUpper_iqz_4
theorem linUpper_all_iqq : ∀ t, t ∈ tabs [(0, 5)] → lawRun 10 10 200 [.i, .q, .q] t = true := by
  intro t ht
  simp only [tabs, List.range, List.range.loop, List.flatMap_cons, List.flatMap_nil, List.map_cons, List.map_nil, List.append_nil, List.cons_append, List.nil_append, List.mem_cons, List.not_mem_nil, or_false] at ht
  rcases ht with rfl | rfl | rfl | rfl | rfl
  · exact linUpper_iqq_0
  · exact linUpper_iqq_1
  · exact linUpper_iqq_2
  · exact linUpper_iqq_3
  · exact linUpper_iqq_4
theorem linUpper_any (a0 : Int) (v1 : Value) (zs1 : List Int) (v2 : Value) (zs2 : List Int) (w : World) (_h0 : -9223372036854775808 ≤ a0 ∧ a0 ≤ 9223372036854775807) (h1 : Ints w v1 zs1) (h2 : Ints w v2 zs2) :
    Calls Try.prog 10 #[.int .i64 a0, v1, v2] w fun e w' => e = .returned (.bool true) ∧ Below w.heap.size w w' := by
  refine law_of (ds := [.i a0, .is zs1, .is zs2]) (nx0 := 10) (k := 200) (l := [(0, 5)]) (by simp) (by decide) (vs := #[.int .i64 a0, v1, v2]) ⟨rfl, h1, h2, trivial⟩ fun ks hk => ?_
  simp only [List.map_cons, List.map_nil, AD.kind, shapes, shapes1, List.flatMap_cons, List.flatMap_nil, List.append_nil, List.cons_append, List.nil_append, List.mem_cons, List.not_mem_nil, or_false] at hk
  rcases hk with rfl | rfl | rfl | rfl
  · exact linUpper_all_izz
  · exact linUpper_all_izq
  · exact linUpper_all_iqz
  · exact linUpper_all_iqq
end Go.Proofs.Ytainodgbcpkipaa
