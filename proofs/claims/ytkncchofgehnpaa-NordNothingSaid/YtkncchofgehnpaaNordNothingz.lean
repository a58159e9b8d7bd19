/-
  'NordNothing': whatever it is given.
-/
import Derived.Test.YtkncchofgehnpaaNordNothing0
import Derived.Test.YtkncchofgehnpaaNordNothing1
import Derived.Test.YtkncchofgehnpaaNordNothing2
import Derived.Test.YtkncchofgehnpaaNordNothing3
namespace Go.Proofs.Ytkncchofgehnpaa
open Go.RowKit Ex
theorem nordNothing_all_iizf : ∀ t, t ∈ tabs [(0, 5), (1, 3)] → lawRun 12 10 200 [.i, .i, .z, .f] t = true := by
  intro t ht
  simp only [tabs, List.range, List.range.loop, List.flatMap_cons, List.flatMap_nil, List.map_cons, List.map_nil, List.append_nil, List.cons_append, List.nil_append, List.mem_cons, List.not_mem_nil, or_false] at ht
  rcases ht with rfl | rfl | rfl | rfl | rfl | rfl | rfl | rfl | rfl | rfl | rfl | rfl | rfl | rfl | rfl
  · exact nordNothing_iizf_0_0
  · exact nordNothing_iizf_0_1
  · exact nordNothing_iizf_0_2
  · exact nordNothing_iizf_1_0
  · exact nordNothing_iizf_1_1
  · exact nordNothing_iizf_1_2
  · exact nordNothing_iizf_2_0
  · exact nordNothing_iizf_2_1
  · exact nordNothing_iizf_2_2
  · exact nordNothing_iizf_3_0
  · exact nordNothing_iizf_3_1
  · exact nordNothing_iizf_3_2
  · exact nordNothing_iizf_4_0
  · exact nordNothing_iizf_4_1
  · exact nordNothing_iizf_4_2
theorem nordNothing_all_iiqf : ∀ t, t ∈ tabs [(0, 5), (1, 3)] → lawRun 12 10 200 [.i, .i, .q, .f] t = true := by
  intro t ht
  simp only [tabs, List.range, List.range.loop, List.flatMap_cons, List.flatMap_nil, List.map_cons, List.map_nil, List.append_nil, List.cons_append, List.nil_append, List.mem_cons, List.not_mem_nil, or_false] at ht
  rcases ht with rfl | rfl | rfl | rfl | rfl | rfl | rfl | rfl | rfl | rfl | rfl | rfl | rfl | rfl | rfl
  · exact nordNothing_iiqf_0_0
  · exact nordNothing_iiqf_0_1
  · exact nordNothing_iiqf_0_2
  · exact nordNothing_iiqf_1_0
  · exact nordNothing_iiqf_1_1
  · exact nordNothing_iiqf_1_2
  · exact nordNothing_iiqf_2_0
  · exact nordNothing_iiqf_2_1
  · exact nordNothing_iiqf_2_2
  · exact nordNothing_iiqf_3_0
  · exact nordNothing_iiqf_3_1
  · exact nordNothing_iiqf_3_2
  · exact nordNothing_iiqf_4_0
  · exact nordNothing_iiqf_4_1
  · exact nordNothing_iiqf_4_2
theorem nordNothing_any (a0 : Int) (a1 : Int) (v2 : Value) (zs2 : List Int) (a3 : Nat) (w : World) (_h0 : -9223372036854775808 ≤ a0 ∧ a0 ≤ 9223372036854775807) (_h1 : -9223372036854775808 ≤ a1 ∧ a1 ≤ 9223372036854775807) (h2 : Ints w v2 zs2) (h3 : a3 < 18446744073709551616) :
    Calls Try.prog 12 #[.int .i64 a0, .int .i64 a1, v2, .float .f64 a3] w fun e w' => e = .returned (.bool true) ∧ Below w.heap.size w w' := by
  refine law_of (ds := [.i a0, .i a1, .is zs2, .f a3]) (nx0 := 10) (k := 200) (l := [(0, 5), (1, 3)]) (by simp) (by decide) (vs := #[.int .i64 a0, .int .i64 a1, v2, .float .f64 a3]) ⟨rfl, rfl, h2, ⟨rfl, h3⟩, trivial⟩ fun ks hk => ?_
  simp only [List.map_cons, List.map_nil, AD.kind, shapes, shapes1, List.flatMap_cons, List.flatMap_nil, List.append_nil, List.cons_append, List.nil_append, List.mem_cons, List.not_mem_nil, or_false] at hk
  rcases hk with rfl | rfl
  · exact nordNothing_all_iizf
  · exact nordNothing_all_iiqf
end Go.Proofs.Ytkncchofgehnpaa
