/-
  'ModelOwn': whatever it is given.
-/
import Derived.Test.YtmmpgglbeaofkaaModelOwn0
namespace Go.Proofs.Ytmmpgglbeaofkaa
open Go.RowKit Ex
theorem modelOwn_all_z : ∀ t, t ∈ tabs [] → lawRun 13 10 200 [.z] t = true := by
  intro t ht
  simp only [tabs, List.range, List.range.loop, List.flatMap_cons, List.flatMap_nil, List.map_cons, List.map_nil, List.append_nil, List.cons_append, List.nil_append, List.mem_cons, List.not_mem_nil, or_false] at ht
  rcases ht with rfl
  · exact modelOwn_z_x
theorem modelOwn_all_q : ∀ t, t ∈ tabs [] → lawRun 13 10 200 [.q] t = true := by
  intro t ht
  simp only [tabs, List.range, List.range.loop, List.flatMap_cons, List.flatMap_nil, List.map_cons, List.map_nil, List.append_nil, List.cons_append, List.nil_append, List.mem_cons, List.not_mem_nil, or_false] at ht
  rcases ht with rfl
  · exact modelOwn_q_x
theorem modelOwn_any (v0 : Value) (zs0 : List Int) (w : World) (h0 : Ints w v0 zs0) :
    Calls Try.prog 13 #[v0] w fun e w' => e = .returned (.bool true) ∧ Below w.heap.size w w' := by
  refine law_of (ds := [.is zs0]) (nx0 := 10) (k := 200) (l := []) (by simp) (by decide) (vs := #[v0]) ⟨h0, trivial⟩ fun ks hk => ?_
  simp only [List.map_cons, List.map_nil, AD.kind, shapes, shapes1, List.flatMap_cons, List.flatMap_nil, List.append_nil, List.cons_append, List.nil_append, List.mem_cons, List.not_mem_nil, or_false] at hk
  rcases hk with rfl | rfl
  · exact modelOwn_all_z
  · exact modelOwn_all_q
end Go.Proofs.Ytmmpgglbeaofkaa
