/-
  'NordStarts': whatever it is given.
-/
import Derived.Test.YtkncchofgehnpaaNordStarts0
import Derived.Test.YtkncchofgehnpaaNordStarts1
import Derived.Test.YtkncchofgehnpaaNordStarts2
namespace Go.Proofs.Ytkncchofgehnpaa
open Go.RowKit Ex
theorem nordStarts_all : ∀ tb, tb ∈ tabs [(0, 3)] → ∀ ls, ls ∈ lensAll [(1, 8)] → ∃ t, tabGood 100 t = true ∧ lawRunT 7 10 200 [.i, .q, .q, .i] tb ls t = true := by
  intro tb ht ls hls
  simp only [tabs, List.range, List.range.loop, List.flatMap_cons, List.flatMap_nil, List.map_cons, List.map_nil, List.append_nil, List.cons_append, List.nil_append, List.mem_cons, List.not_mem_nil, or_false] at ht
  rcases ht with rfl | rfl | rfl
  · skip
    simp only [lensAll, List.mem_flatMap, List.mem_map, List.mem_range] at hls
    obtain ⟨L0, hL0, ls1, hl1, rfl⟩ := hls
    have hc0 : L0 = 0 ∨ L0 = 1 ∨ L0 = 2 ∨ L0 = 3 ∨ L0 = 4 ∨ L0 = 5 ∨ L0 = 6 ∨ L0 = 7 ∨ L0 = 8 := by omega
    rcases hc0 with rfl | rfl | rfl | rfl | rfl | rfl | rfl | rfl | rfl
    · skip
      obtain rfl : ls1 = [] := by simpa [lensAll] using hl1
      exact ⟨nordStartsNms0, nordStartsGood0, nordStarts_0_0⟩
    · skip
      obtain rfl : ls1 = [] := by simpa [lensAll] using hl1
      exact ⟨nordStartsNms0, nordStartsGood0, nordStarts_0_1⟩
    · skip
      obtain rfl : ls1 = [] := by simpa [lensAll] using hl1
      exact ⟨nordStartsNms0, nordStartsGood0, nordStarts_0_2⟩
    · skip
      obtain rfl : ls1 = [] := by simpa [lensAll] using hl1
      exact ⟨nordStartsNms0, nordStartsGood0, nordStarts_0_3⟩
    · skip
      obtain rfl : ls1 = [] := by simpa [lensAll] using hl1
      exact ⟨nordStartsNms0, nordStartsGood0, nordStarts_0_4⟩
    · skip
      obtain rfl : ls1 = [] := by simpa [lensAll] using hl1
      exact ⟨nordStartsNms0, nordStartsGood0, nordStarts_0_5⟩
    · skip
      obtain rfl : ls1 = [] := by simpa [lensAll] using hl1
      exact ⟨nordStartsNms0, nordStartsGood0, nordStarts_0_6⟩
    · skip
      obtain rfl : ls1 = [] := by simpa [lensAll] using hl1
      exact ⟨nordStartsNms0, nordStartsGood0, nordStarts_0_7⟩
    · skip
      obtain rfl : ls1 = [] := by simpa [lensAll] using hl1
      exact ⟨nordStartsNms0, nordStartsGood0, nordStarts_0_8⟩
  · skip
    simp only [lensAll, List.mem_flatMap, List.mem_map, List.mem_range] at hls
    obtain ⟨L0, hL0, ls1, hl1, rfl⟩ := hls
    have hc0 : L0 = 0 ∨ L0 = 1 ∨ L0 = 2 ∨ L0 = 3 ∨ L0 = 4 ∨ L0 = 5 ∨ L0 = 6 ∨ L0 = 7 ∨ L0 = 8 := by omega
    rcases hc0 with rfl | rfl | rfl | rfl | rfl | rfl | rfl | rfl | rfl
    · skip
      obtain rfl : ls1 = [] := by simpa [lensAll] using hl1
      exact ⟨nordStartsNms1, nordStartsGood1, nordStarts_1_0⟩
    · skip
      obtain rfl : ls1 = [] := by simpa [lensAll] using hl1
      exact ⟨nordStartsNms1, nordStartsGood1, nordStarts_1_1⟩
    · skip
      obtain rfl : ls1 = [] := by simpa [lensAll] using hl1
      exact ⟨nordStartsNms1, nordStartsGood1, nordStarts_1_2⟩
    · skip
      obtain rfl : ls1 = [] := by simpa [lensAll] using hl1
      exact ⟨nordStartsNms1, nordStartsGood1, nordStarts_1_3⟩
    · skip
      obtain rfl : ls1 = [] := by simpa [lensAll] using hl1
      exact ⟨nordStartsNms1, nordStartsGood1, nordStarts_1_4⟩
    · skip
      obtain rfl : ls1 = [] := by simpa [lensAll] using hl1
      exact ⟨nordStartsNms1, nordStartsGood1, nordStarts_1_5⟩
    · skip
      obtain rfl : ls1 = [] := by simpa [lensAll] using hl1
      exact ⟨nordStartsNms1, nordStartsGood1, nordStarts_1_6⟩
    · skip
      obtain rfl : ls1 = [] := by simpa [lensAll] using hl1
      exact ⟨nordStartsNms1, nordStartsGood1, nordStarts_1_7⟩
    · skip
      obtain rfl : ls1 = [] := by simpa [lensAll] using hl1
      exact ⟨nordStartsNms1, nordStartsGood1, nordStarts_1_8⟩
  · skip
    simp only [lensAll, List.mem_flatMap, List.mem_map, List.mem_range] at hls
    obtain ⟨L0, hL0, ls1, hl1, rfl⟩ := hls
    have hc0 : L0 = 0 ∨ L0 = 1 ∨ L0 = 2 ∨ L0 = 3 ∨ L0 = 4 ∨ L0 = 5 ∨ L0 = 6 ∨ L0 = 7 ∨ L0 = 8 := by omega
    rcases hc0 with rfl | rfl | rfl | rfl | rfl | rfl | rfl | rfl | rfl
    · skip
      obtain rfl : ls1 = [] := by simpa [lensAll] using hl1
      exact ⟨nordStartsNms2, nordStartsGood2, nordStarts_2_0⟩
    · skip
      obtain rfl : ls1 = [] := by simpa [lensAll] using hl1
      exact ⟨nordStartsNms2, nordStartsGood2, nordStarts_2_1⟩
    · skip
      obtain rfl : ls1 = [] := by simpa [lensAll] using hl1
      exact ⟨nordStartsNms2, nordStartsGood2, nordStarts_2_2⟩
    · skip
      obtain rfl : ls1 = [] := by simpa [lensAll] using hl1
      exact ⟨nordStartsNms2, nordStartsGood2, nordStarts_2_3⟩
    · skip
      obtain rfl : ls1 = [] := by simpa [lensAll] using hl1
      exact ⟨nordStartsNms2, nordStartsGood2, nordStarts_2_4⟩
    · skip
      obtain rfl : ls1 = [] := by simpa [lensAll] using hl1
      exact ⟨nordStartsNms2, nordStartsGood2, nordStarts_2_5⟩
    · skip
      obtain rfl : ls1 = [] := by simpa [lensAll] using hl1
      exact ⟨nordStartsNms2, nordStartsGood2, nordStarts_2_6⟩
    · skip
      obtain rfl : ls1 = [] := by simpa [lensAll] using hl1
      exact ⟨nordStartsNms2, nordStartsGood2, nordStarts_2_7⟩
    · skip
      obtain rfl : ls1 = [] := by simpa [lensAll] using hl1
      exact ⟨nordStartsNms2, nordStartsGood2, nordStarts_2_8⟩
theorem nordStarts_any (a0 : Int) (v1 : Value) (zs1 : List Int) (v2 : Value) (zs2 : List Int) (a3 : Int) (w : World) (_h0 : -9223372036854775808 ≤ a0 ∧ a0 ≤ 9223372036854775807) (h1 : Ints w v1 zs1) (h2 : Ints w v2 zs2) (_h3 : -9223372036854775808 ≤ a3 ∧ a3 ≤ 9223372036854775807) :
    Calls Try.prog 7 #[.int .i64 a0, v1, v2, .int .i64 a3] w fun e w' => e = .returned (.bool true) ∧ Below w.heap.size w w' := by
  refine law_ofT (ds := [.i a0, .is zs1, .is zs2, .i a3]) (nx0 := 10) (k := 200) (base := 100) (l := [(0, 3)]) (lens := [(1, 8)]) (by simp) (by simp) (by decide) (vs := #[.int .i64 a0, v1, v2, .int .i64 a3]) ⟨rfl, h1, h2, rfl, trivial⟩ fun ks hk => ?_
  have hk : ks = [.i, .q, .q, .i] := by simpa [AD.kind, shapes, shapes1] using hk
  subst hk
  exact nordStarts_all
end Go.Proofs.Ytkncchofgehnpaa
