/-
  'IvRare': whatever it is given.
-/
import Derived.Test.YtbepaoliboooaaaIvRare0
import Derived.Test.YtbepaoliboooaaaIvRare1
import Derived.Test.YtbepaoliboooaaaIvRare2
namespace Go.Proofs.Ytbepaoliboooaaa
open Go.RowKit Ex
theorem rare_all : ∀ a, a ∈ rareL → rareChk a = true := by
  intro a ha
  simp only [rareL, List.mem_cons, List.not_mem_nil, or_false] at ha
  rcases ha with rfl | rfl | rfl | rfl | rfl | rfl | rfl | rfl | rfl | rfl
  · exact rare_nanB
  · exact rare_9218868437227405312
  · exact rare_18442240474082181120
  · exact rare_0
  · exact rare_1
  · exact rare_18442240474082181119
  · exact rare_9218868437227405311
  · exact rare_4607182418800017408
  · exact rare_4602678819172646912
  · exact rare_13835058055282163712
theorem ivRare_any (a0 a1 a2 a3 : Int) (w : World) (_h0 : -9223372036854775808 ≤ a0 ∧ a0 ≤ 9223372036854775807) (_h1 : -9223372036854775808 ≤ a1 ∧ a1 ≤ 9223372036854775807) (_h2 : -9223372036854775808 ≤ a2 ∧ a2 ≤ 9223372036854775807) (_h3 : -9223372036854775808 ≤ a3 ∧ a3 ≤ 9223372036854775807) :
    Calls Try.prog 14 #[.int .i64 a0, .int .i64 a1, .int .i64 a2, .int .i64 a3] w fun e w' => e = .returned (.bool true) ∧ Below w.heap.size w w' := ivRare_of rare_all a0 a1 a2 a3 w
end Go.Proofs.Ytbepaoliboooaaa
