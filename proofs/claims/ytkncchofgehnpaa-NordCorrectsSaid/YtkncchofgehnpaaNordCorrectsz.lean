/-
  'NordCorrects': whatever it is given.
-/
import Derived.Test.YtkncchofgehnpaaNordCorrects0
import Derived.Test.YtkncchofgehnpaaNordCorrects1
import Derived.Test.YtkncchofgehnpaaNordCorrects2
import Derived.Test.YtkncchofgehnpaaNordCorrects3
namespace Go.Proofs.Ytkncchofgehnpaa
open Go.RowKit Ex
theorem nordCorrects_all : ∀ tb, tb ∈ tabs [(0, 4), (1, 3)] → ∀ ls, ls ∈ lensAll [] → ∃ t, tabGood 100 t = true ∧ lawRunE 5 10 200 [.i, .i, .q, .q] tb ls t = true := by
  intro tb ht ls hls
  simp only [tabs, List.range, List.range.loop, List.flatMap_cons, List.flatMap_nil, List.map_cons, List.map_nil, List.append_nil, List.cons_append, List.nil_append, List.mem_cons, List.not_mem_nil, or_false] at ht
  rcases ht with rfl | rfl | rfl | rfl | rfl | rfl | rfl | rfl | rfl | rfl | rfl | rfl
  · skip
    obtain rfl : ls = [] := by simpa [lensAll] using hls
    exact ⟨nordCorrectsNms0, nordCorrectsGood0, nordCorrects_0_0_x⟩
  · skip
    obtain rfl : ls = [] := by simpa [lensAll] using hls
    exact ⟨nordCorrectsNms0, nordCorrectsGood0, nordCorrects_0_1_x⟩
  · skip
    obtain rfl : ls = [] := by simpa [lensAll] using hls
    exact ⟨nordCorrectsNms0, nordCorrectsGood0, nordCorrects_0_2_x⟩
  · skip
    obtain rfl : ls = [] := by simpa [lensAll] using hls
    exact ⟨nordCorrectsNms1, nordCorrectsGood1, nordCorrects_1_0_x⟩
  · skip
    obtain rfl : ls = [] := by simpa [lensAll] using hls
    exact ⟨nordCorrectsNms1, nordCorrectsGood1, nordCorrects_1_1_x⟩
  · skip
    obtain rfl : ls = [] := by simpa [lensAll] using hls
    exact ⟨nordCorrectsNms1, nordCorrectsGood1, nordCorrects_1_2_x⟩
  · skip
    obtain rfl : ls = [] := by simpa [lensAll] using hls
    exact ⟨nordCorrectsNms2, nordCorrectsGood2, nordCorrects_2_0_x⟩
  · skip
    obtain rfl : ls = [] := by simpa [lensAll] using hls
    exact ⟨nordCorrectsNms2, nordCorrectsGood2, nordCorrects_2_1_x⟩
  · skip
    obtain rfl : ls = [] := by simpa [lensAll] using hls
    exact ⟨nordCorrectsNms2, nordCorrectsGood2, nordCorrects_2_2_x⟩
  · skip
    obtain rfl : ls = [] := by simpa [lensAll] using hls
    exact ⟨nordCorrectsNms3, nordCorrectsGood3, nordCorrects_3_0_x⟩
  · skip
    obtain rfl : ls = [] := by simpa [lensAll] using hls
    exact ⟨nordCorrectsNms3, nordCorrectsGood3, nordCorrects_3_1_x⟩
  · skip
    obtain rfl : ls = [] := by simpa [lensAll] using hls
    exact ⟨nordCorrectsNms3, nordCorrectsGood3, nordCorrects_3_2_x⟩
theorem nordCorrects_any (a0 : Int) (a1 : Int) (v2 : Value) (zs2 : List Int) (v3 : Value) (zs3 : List Int) (w : World) (_h0 : -9223372036854775808 ≤ a0 ∧ a0 ≤ 9223372036854775807) (_h1 : -9223372036854775808 ≤ a1 ∧ a1 ≤ 9223372036854775807) (h2 : Ints w v2 zs2) (h3 : Ints w v3 zs3) :
    Calls Try.prog 5 #[.int .i64 a0, .int .i64 a1, v2, v3] w fun e w' => e = .returned (.bool true) ∧ Below w.heap.size w w' := by
  refine law_ofE (ds := [.i a0, .i a1, .is zs2, .is zs3]) (nx0 := 10) (k := 200) (base := 100) (l := [(0, 4), (1, 3)]) (lens := []) (by simp) (by simp) (by decide) (vs := #[.int .i64 a0, .int .i64 a1, v2, v3]) ⟨rfl, rfl, h2, h3, trivial⟩ fun ks hk => ?_
  have hk : ks = [.i, .i, .q, .q] := by simpa [AD.kind, shapes, shapes1] using hk
  subst hk
  exact nordCorrects_all
end Go.Proofs.Ytkncchofgehnpaa
