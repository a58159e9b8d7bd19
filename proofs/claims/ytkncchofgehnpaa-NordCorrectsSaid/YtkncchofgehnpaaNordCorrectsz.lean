/-
  'NordCorrects': whatever it is given.
-/
import Derived.Test.YtkncchofgehnpaaNordCorrects0
import Derived.Test.YtkncchofgehnpaaNordCorrects1
import Derived.Test.YtkncchofgehnpaaNordCorrects2
import Derived.Test.YtkncchofgehnpaaNordCorrects3
import Derived.Test.YtkncchofgehnpaaNordCorrects4
import Derived.Test.YtkncchofgehnpaaNordCorrects5
import Derived.Test.YtkncchofgehnpaaNordCorrects6
import Derived.Test.YtkncchofgehnpaaNordCorrects7
namespace Go.Proofs.Ytkncchofgehnpaa
open Go.RowKit Ex
theorem nordCorrects_all : ∀ tb, tb ∈ tabs [(0, 4), (1, 3)] → ∀ ls, ls ∈ lensAll [(3, 3)] → ∃ t, tabGood 100 t = true ∧ lawRunE 5 10 200 [.i, .i, .q, .q] tb ls t = true := by
  intro tb ht ls hls
  simp only [tabs, List.range, List.range.loop, List.flatMap_cons, List.flatMap_nil, List.map_cons, List.map_nil, List.append_nil, List.cons_append, List.nil_append, List.mem_cons, List.not_mem_nil, or_false] at ht
  rcases ht with rfl | rfl | rfl | rfl | rfl | rfl | rfl | rfl | rfl | rfl | rfl | rfl
  · skip
    simp only [lensAll, List.mem_flatMap, List.mem_map, List.mem_range] at hls
    obtain ⟨L0, hL0, ls1, hl1, rfl⟩ := hls
    have hc0 : L0 = 0 ∨ L0 = 1 ∨ L0 = 2 ∨ L0 = 3 := by omega
    rcases hc0 with rfl | rfl | rfl | rfl
    · skip
      obtain rfl : ls1 = [] := by simpa [lensAll] using hl1
      exact ⟨nordCorrectsNms0, nordCorrectsGood0, nordCorrects_0_0_0⟩
    · skip
      obtain rfl : ls1 = [] := by simpa [lensAll] using hl1
      exact ⟨nordCorrectsNms0, nordCorrectsGood0, nordCorrects_0_0_1⟩
    · skip
      obtain rfl : ls1 = [] := by simpa [lensAll] using hl1
      exact ⟨nordCorrectsNms0, nordCorrectsGood0, nordCorrects_0_0_2⟩
    · skip
      obtain rfl : ls1 = [] := by simpa [lensAll] using hl1
      exact ⟨nordCorrectsNms0, nordCorrectsGood0, nordCorrects_0_0_3⟩
  · skip
    simp only [lensAll, List.mem_flatMap, List.mem_map, List.mem_range] at hls
    obtain ⟨L0, hL0, ls1, hl1, rfl⟩ := hls
    have hc0 : L0 = 0 ∨ L0 = 1 ∨ L0 = 2 ∨ L0 = 3 := by omega
    rcases hc0 with rfl | rfl | rfl | rfl
    · skip
      obtain rfl : ls1 = [] := by simpa [lensAll] using hl1
      exact ⟨nordCorrectsNms0, nordCorrectsGood0, nordCorrects_0_1_0⟩
    · skip
      obtain rfl : ls1 = [] := by simpa [lensAll] using hl1
      exact ⟨nordCorrectsNms0, nordCorrectsGood0, nordCorrects_0_1_1⟩
    · skip
      obtain rfl : ls1 = [] := by simpa [lensAll] using hl1
      exact ⟨nordCorrectsNms0, nordCorrectsGood0, nordCorrects_0_1_2⟩
    · skip
      obtain rfl : ls1 = [] := by simpa [lensAll] using hl1
      exact ⟨nordCorrectsNms0, nordCorrectsGood0, nordCorrects_0_1_3⟩
  · skip
    simp only [lensAll, List.mem_flatMap, List.mem_map, List.mem_range] at hls
    obtain ⟨L0, hL0, ls1, hl1, rfl⟩ := hls
    have hc0 : L0 = 0 ∨ L0 = 1 ∨ L0 = 2 ∨ L0 = 3 := by omega
    rcases hc0 with rfl | rfl | rfl | rfl
    · skip
      obtain rfl : ls1 = [] := by simpa [lensAll] using hl1
      exact ⟨nordCorrectsNms0, nordCorrectsGood0, nordCorrects_0_2_0⟩
    · skip
      obtain rfl : ls1 = [] := by simpa [lensAll] using hl1
      exact ⟨nordCorrectsNms0, nordCorrectsGood0, nordCorrects_0_2_1⟩
    · skip
      obtain rfl : ls1 = [] := by simpa [lensAll] using hl1
      exact ⟨nordCorrectsNms0, nordCorrectsGood0, nordCorrects_0_2_2⟩
    · skip
      obtain rfl : ls1 = [] := by simpa [lensAll] using hl1
      exact ⟨nordCorrectsNms0, nordCorrectsGood0, nordCorrects_0_2_3⟩
  · skip
    simp only [lensAll, List.mem_flatMap, List.mem_map, List.mem_range] at hls
    obtain ⟨L0, hL0, ls1, hl1, rfl⟩ := hls
    have hc0 : L0 = 0 ∨ L0 = 1 ∨ L0 = 2 ∨ L0 = 3 := by omega
    rcases hc0 with rfl | rfl | rfl | rfl
    · skip
      obtain rfl : ls1 = [] := by simpa [lensAll] using hl1
      exact ⟨nordCorrectsNms1, nordCorrectsGood1, nordCorrects_1_0_0⟩
    · skip
      obtain rfl : ls1 = [] := by simpa [lensAll] using hl1
      exact ⟨nordCorrectsNms1, nordCorrectsGood1, nordCorrects_1_0_1⟩
    · skip
      obtain rfl : ls1 = [] := by simpa [lensAll] using hl1
      exact ⟨nordCorrectsNms1, nordCorrectsGood1, nordCorrects_1_0_2⟩
    · skip
      obtain rfl : ls1 = [] := by simpa [lensAll] using hl1
      exact ⟨nordCorrectsNms1, nordCorrectsGood1, nordCorrects_1_0_3⟩
  · skip
    simp only [lensAll, List.mem_flatMap, List.mem_map, List.mem_range] at hls
    obtain ⟨L0, hL0, ls1, hl1, rfl⟩ := hls
    have hc0 : L0 = 0 ∨ L0 = 1 ∨ L0 = 2 ∨ L0 = 3 := by omega
    rcases hc0 with rfl | rfl | rfl | rfl
    · skip
      obtain rfl : ls1 = [] := by simpa [lensAll] using hl1
      exact ⟨nordCorrectsNms1, nordCorrectsGood1, nordCorrects_1_1_0⟩
    · skip
      obtain rfl : ls1 = [] := by simpa [lensAll] using hl1
      exact ⟨nordCorrectsNms1, nordCorrectsGood1, nordCorrects_1_1_1⟩
    · skip
      obtain rfl : ls1 = [] := by simpa [lensAll] using hl1
      exact ⟨nordCorrectsNms1, nordCorrectsGood1, nordCorrects_1_1_2⟩
    · skip
      obtain rfl : ls1 = [] := by simpa [lensAll] using hl1
      exact ⟨nordCorrectsNms1, nordCorrectsGood1, nordCorrects_1_1_3⟩
  · skip
    simp only [lensAll, List.mem_flatMap, List.mem_map, List.mem_range] at hls
    obtain ⟨L0, hL0, ls1, hl1, rfl⟩ := hls
    have hc0 : L0 = 0 ∨ L0 = 1 ∨ L0 = 2 ∨ L0 = 3 := by omega
    rcases hc0 with rfl | rfl | rfl | rfl
    · skip
      obtain rfl : ls1 = [] := by simpa [lensAll] using hl1
      exact ⟨nordCorrectsNms1, nordCorrectsGood1, nordCorrects_1_2_0⟩
    · skip
      obtain rfl : ls1 = [] := by simpa [lensAll] using hl1
      exact ⟨nordCorrectsNms1, nordCorrectsGood1, nordCorrects_1_2_1⟩
    · skip
      obtain rfl : ls1 = [] := by simpa [lensAll] using hl1
      exact ⟨nordCorrectsNms1, nordCorrectsGood1, nordCorrects_1_2_2⟩
    · skip
      obtain rfl : ls1 = [] := by simpa [lensAll] using hl1
      exact ⟨nordCorrectsNms1, nordCorrectsGood1, nordCorrects_1_2_3⟩
  · skip
    simp only [lensAll, List.mem_flatMap, List.mem_map, List.mem_range] at hls
    obtain ⟨L0, hL0, ls1, hl1, rfl⟩ := hls
    have hc0 : L0 = 0 ∨ L0 = 1 ∨ L0 = 2 ∨ L0 = 3 := by omega
    rcases hc0 with rfl | rfl | rfl | rfl
    · skip
      obtain rfl : ls1 = [] := by simpa [lensAll] using hl1
      exact ⟨nordCorrectsNms2, nordCorrectsGood2, nordCorrects_2_0_0⟩
    · skip
      obtain rfl : ls1 = [] := by simpa [lensAll] using hl1
      exact ⟨nordCorrectsNms2, nordCorrectsGood2, nordCorrects_2_0_1⟩
    · skip
      obtain rfl : ls1 = [] := by simpa [lensAll] using hl1
      exact ⟨nordCorrectsNms2, nordCorrectsGood2, nordCorrects_2_0_2⟩
    · skip
      obtain rfl : ls1 = [] := by simpa [lensAll] using hl1
      exact ⟨nordCorrectsNms2, nordCorrectsGood2, nordCorrects_2_0_3⟩
  · skip
    simp only [lensAll, List.mem_flatMap, List.mem_map, List.mem_range] at hls
    obtain ⟨L0, hL0, ls1, hl1, rfl⟩ := hls
    have hc0 : L0 = 0 ∨ L0 = 1 ∨ L0 = 2 ∨ L0 = 3 := by omega
    rcases hc0 with rfl | rfl | rfl | rfl
    · skip
      obtain rfl : ls1 = [] := by simpa [lensAll] using hl1
      exact ⟨nordCorrectsNms2, nordCorrectsGood2, nordCorrects_2_1_0⟩
    · skip
      obtain rfl : ls1 = [] := by simpa [lensAll] using hl1
      exact ⟨nordCorrectsNms2, nordCorrectsGood2, nordCorrects_2_1_1⟩
    · skip
      obtain rfl : ls1 = [] := by simpa [lensAll] using hl1
      exact ⟨nordCorrectsNms2, nordCorrectsGood2, nordCorrects_2_1_2⟩
    · skip
      obtain rfl : ls1 = [] := by simpa [lensAll] using hl1
      exact ⟨nordCorrectsNms2, nordCorrectsGood2, nordCorrects_2_1_3⟩
  · skip
    simp only [lensAll, List.mem_flatMap, List.mem_map, List.mem_range] at hls
    obtain ⟨L0, hL0, ls1, hl1, rfl⟩ := hls
    have hc0 : L0 = 0 ∨ L0 = 1 ∨ L0 = 2 ∨ L0 = 3 := by omega
    rcases hc0 with rfl | rfl | rfl | rfl
    · skip
      obtain rfl : ls1 = [] := by simpa [lensAll] using hl1
      exact ⟨nordCorrectsNms2, nordCorrectsGood2, nordCorrects_2_2_0⟩
    · skip
      obtain rfl : ls1 = [] := by simpa [lensAll] using hl1
      exact ⟨nordCorrectsNms2, nordCorrectsGood2, nordCorrects_2_2_1⟩
    · skip
      obtain rfl : ls1 = [] := by simpa [lensAll] using hl1
      exact ⟨nordCorrectsNms2, nordCorrectsGood2, nordCorrects_2_2_2⟩
    · skip
      obtain rfl : ls1 = [] := by simpa [lensAll] using hl1
      exact ⟨nordCorrectsNms2, nordCorrectsGood2, nordCorrects_2_2_3⟩
  · skip
    simp only [lensAll, List.mem_flatMap, List.mem_map, List.mem_range] at hls
    obtain ⟨L0, hL0, ls1, hl1, rfl⟩ := hls
    have hc0 : L0 = 0 ∨ L0 = 1 ∨ L0 = 2 ∨ L0 = 3 := by omega
    rcases hc0 with rfl | rfl | rfl | rfl
    · skip
      obtain rfl : ls1 = [] := by simpa [lensAll] using hl1
      exact ⟨nordCorrectsNms3, nordCorrectsGood3, nordCorrects_3_0_0⟩
    · skip
      obtain rfl : ls1 = [] := by simpa [lensAll] using hl1
      exact ⟨nordCorrectsNms3, nordCorrectsGood3, nordCorrects_3_0_1⟩
    · skip
      obtain rfl : ls1 = [] := by simpa [lensAll] using hl1
      exact ⟨nordCorrectsNms3, nordCorrectsGood3, nordCorrects_3_0_2⟩
    · skip
      obtain rfl : ls1 = [] := by simpa [lensAll] using hl1
      exact ⟨nordCorrectsNms3, nordCorrectsGood3, nordCorrects_3_0_3⟩
  · skip
    simp only [lensAll, List.mem_flatMap, List.mem_map, List.mem_range] at hls
    obtain ⟨L0, hL0, ls1, hl1, rfl⟩ := hls
    have hc0 : L0 = 0 ∨ L0 = 1 ∨ L0 = 2 ∨ L0 = 3 := by omega
    rcases hc0 with rfl | rfl | rfl | rfl
    · skip
      obtain rfl : ls1 = [] := by simpa [lensAll] using hl1
      exact ⟨nordCorrectsNms3, nordCorrectsGood3, nordCorrects_3_1_0⟩
    · skip
      obtain rfl : ls1 = [] := by simpa [lensAll] using hl1
      exact ⟨nordCorrectsNms3, nordCorrectsGood3, nordCorrects_3_1_1⟩
    · skip
      obtain rfl : ls1 = [] := by simpa [lensAll] using hl1
      exact ⟨nordCorrectsNms3, nordCorrectsGood3, nordCorrects_3_1_2⟩
    · skip
      obtain rfl : ls1 = [] := by simpa [lensAll] using hl1
      exact ⟨nordCorrectsNms3, nordCorrectsGood3, nordCorrects_3_1_3⟩
  · skip
    simp only [lensAll, List.mem_flatMap, List.mem_map, List.mem_range] at hls
    obtain ⟨L0, hL0, ls1, hl1, rfl⟩ := hls
    have hc0 : L0 = 0 ∨ L0 = 1 ∨ L0 = 2 ∨ L0 = 3 := by omega
    rcases hc0 with rfl | rfl | rfl | rfl
    · skip
      obtain rfl : ls1 = [] := by simpa [lensAll] using hl1
      exact ⟨nordCorrectsNms3, nordCorrectsGood3, nordCorrects_3_2_0⟩
    · skip
      obtain rfl : ls1 = [] := by simpa [lensAll] using hl1
      exact ⟨nordCorrectsNms3, nordCorrectsGood3, nordCorrects_3_2_1⟩
    · skip
      obtain rfl : ls1 = [] := by simpa [lensAll] using hl1
      exact ⟨nordCorrectsNms3, nordCorrectsGood3, nordCorrects_3_2_2⟩
    · skip
      obtain rfl : ls1 = [] := by simpa [lensAll] using hl1
      exact ⟨nordCorrectsNms3, nordCorrectsGood3, nordCorrects_3_2_3⟩
theorem nordCorrects_any (a0 : Int) (a1 : Int) (v2 : Value) (zs2 : List Int) (v3 : Value) (zs3 : List Int) (w : World) (_h0 : -9223372036854775808 ≤ a0 ∧ a0 ≤ 9223372036854775807) (_h1 : -9223372036854775808 ≤ a1 ∧ a1 ≤ 9223372036854775807) (h2 : Ints w v2 zs2) (h3 : Ints w v3 zs3) :
    Calls Try.prog 5 #[.int .i64 a0, .int .i64 a1, v2, v3] w fun e w' => e = .returned (.bool true) ∧ Below w.heap.size w w' := by
  refine law_ofE (ds := [.i a0, .i a1, .is zs2, .is zs3]) (nx0 := 10) (k := 200) (base := 100) (l := [(0, 4), (1, 3)]) (lens := [(3, 3)]) (by simp) (by simp) (by decide) (vs := #[.int .i64 a0, .int .i64 a1, v2, v3]) ⟨rfl, rfl, h2, h3, trivial⟩ fun ks hk => ?_
  have hk : ks = [.i, .i, .q, .q] := by simpa [AD.kind, shapes, shapes1] using hk
  subst hk
  exact nordCorrects_all
end Go.Proofs.Ytkncchofgehnpaa
