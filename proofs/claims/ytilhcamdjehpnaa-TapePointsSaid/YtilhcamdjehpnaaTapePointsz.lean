/-
  'TapePoints': whatever it is given.
-/
import Derived.Test.YtilhcamdjehpnaaTapePoints0
import Derived.Test.YtilhcamdjehpnaaTapePoints1
import Derived.Test.YtilhcamdjehpnaaTapePoints2
import Derived.Test.YtilhcamdjehpnaaTapePoints3
import Derived.Test.YtilhcamdjehpnaaTapePoints4
import Derived.Test.YtilhcamdjehpnaaTapePoints5
import Derived.Test.YtilhcamdjehpnaaTapePoints6
import Derived.Test.YtilhcamdjehpnaaTapePoints7
import Derived.Test.YtilhcamdjehpnaaTapePoints8
namespace Go.Proofs.Ytilhcamdjehpnaa
open Go.RowKit Ex
theorem tapePoints_all : ∀ tb, tb ∈ tabs [(0, 3)] → ∀ ls, ls ∈ lensAll [(1, 8)] → ∃ t, tabGood 100 t = true ∧ ∃ T Q, trisOK t [] T = true ∧ quasOK t [] Q = true ∧ ∃ ms, AllMem (memRun tb ls t) ms ∧ lawRunQ 6 10 200 [.i, .q, .b, .q] tb ls t T Q ms = true := by
  intro tb ht ls hls
  simp only [tabs, List.range, List.range.loop, List.flatMap_cons, List.flatMap_nil, List.map_cons, List.map_nil, List.append_nil, List.cons_append, List.nil_append, List.mem_cons, List.not_mem_nil, or_false] at ht
  rcases ht with rfl | rfl | rfl
  · skip
    simp only [lensAll, List.mem_flatMap, List.mem_map, List.mem_range] at hls
    obtain ⟨L0, hL0, ls1, hl1, rfl⟩ := hls
    have hc0 : L0 = 0 ∨ L0 = 1 ∨ L0 = 2 ∨ L0 = 3 ∨ L0 = 4 ∨ L0 = 5 ∨ L0 = 6 ∨ L0 = 7 ∨ L0 = 8 := by omega
    rcases hc0 with rfl | rfl | rfl | rfl | rfl | rfl | rfl | rfl | rfl
    · skip
      obtain rfl : ls1 = [] := by simpa [lensAll] using hl1
      exact ⟨vN0, vG0, v0_0T, v0_0Q, v0_0a, v0_0b, v0_0ms, v0_0mo, v0_0⟩
    · skip
      obtain rfl : ls1 = [] := by simpa [lensAll] using hl1
      exact ⟨vN0, vG0, v0_1T, v0_1Q, v0_1a, v0_1b, v0_1ms, v0_1mo, v0_1⟩
    · skip
      obtain rfl : ls1 = [] := by simpa [lensAll] using hl1
      exact ⟨vN0, vG0, v0_2T, v0_2Q, v0_2a, v0_2b, v0_2ms, v0_2mo, v0_2⟩
    · skip
      obtain rfl : ls1 = [] := by simpa [lensAll] using hl1
      exact ⟨vN0, vG0, v0_3T, v0_3Q, v0_3a, v0_3b, v0_3ms, v0_3mo, v0_3⟩
    · skip
      obtain rfl : ls1 = [] := by simpa [lensAll] using hl1
      exact ⟨vN0, vG0, v0_4T, v0_4Q, v0_4a, v0_4b, v0_4ms, v0_4mo, v0_4⟩
    · skip
      obtain rfl : ls1 = [] := by simpa [lensAll] using hl1
      exact ⟨vN0, vG0, v0_5T, v0_5Q, v0_5a, v0_5b, v0_5ms, v0_5mo, v0_5⟩
    · skip
      obtain rfl : ls1 = [] := by simpa [lensAll] using hl1
      exact ⟨vN0, vG0, v0_6T, v0_6Q, v0_6a, v0_6b, v0_6ms, v0_6mo, v0_6⟩
    · skip
      obtain rfl : ls1 = [] := by simpa [lensAll] using hl1
      exact ⟨vN0, vG0, v0_7T, v0_7Q, v0_7a, v0_7b, v0_7ms, v0_7mo, v0_7⟩
    · skip
      obtain rfl : ls1 = [] := by simpa [lensAll] using hl1
      exact ⟨vN0, vG0, v0_8T, v0_8Q, v0_8a, v0_8b, v0_8ms, v0_8mo, v0_8⟩
  · skip
    simp only [lensAll, List.mem_flatMap, List.mem_map, List.mem_range] at hls
    obtain ⟨L0, hL0, ls1, hl1, rfl⟩ := hls
    have hc0 : L0 = 0 ∨ L0 = 1 ∨ L0 = 2 ∨ L0 = 3 ∨ L0 = 4 ∨ L0 = 5 ∨ L0 = 6 ∨ L0 = 7 ∨ L0 = 8 := by omega
    rcases hc0 with rfl | rfl | rfl | rfl | rfl | rfl | rfl | rfl | rfl
    · skip
      obtain rfl : ls1 = [] := by simpa [lensAll] using hl1
      exact ⟨vN1, vG1, v1_0T, v1_0Q, v1_0a, v1_0b, v1_0ms, v1_0mo, v1_0⟩
    · skip
      obtain rfl : ls1 = [] := by simpa [lensAll] using hl1
      exact ⟨vN1, vG1, v1_1T, v1_1Q, v1_1a, v1_1b, v1_1ms, v1_1mo, v1_1⟩
    · skip
      obtain rfl : ls1 = [] := by simpa [lensAll] using hl1
      exact ⟨vN1, vG1, v1_2T, v1_2Q, v1_2a, v1_2b, v1_2ms, v1_2mo, v1_2⟩
    · skip
      obtain rfl : ls1 = [] := by simpa [lensAll] using hl1
      exact ⟨vN1, vG1, v1_3T, v1_3Q, v1_3a, v1_3b, v1_3ms, v1_3mo, v1_3⟩
    · skip
      obtain rfl : ls1 = [] := by simpa [lensAll] using hl1
      exact ⟨vN1, vG1, v1_4T, v1_4Q, v1_4a, v1_4b, v1_4ms, v1_4mo, v1_4⟩
    · skip
      obtain rfl : ls1 = [] := by simpa [lensAll] using hl1
      exact ⟨vN1, vG1, v1_5T, v1_5Q, v1_5a, v1_5b, v1_5ms, v1_5mo, v1_5⟩
    · skip
      obtain rfl : ls1 = [] := by simpa [lensAll] using hl1
      exact ⟨vN1, vG1, v1_6T, v1_6Q, v1_6a, v1_6b, v1_6ms, v1_6mo, v1_6⟩
    · skip
      obtain rfl : ls1 = [] := by simpa [lensAll] using hl1
      exact ⟨vN1, vG1, v1_7T, v1_7Q, v1_7a, v1_7b, v1_7ms, v1_7mo, v1_7⟩
    · skip
      obtain rfl : ls1 = [] := by simpa [lensAll] using hl1
      exact ⟨vN1, vG1, v1_8T, v1_8Q, v1_8a, v1_8b, v1_8ms, v1_8mo, v1_8⟩
  · skip
    simp only [lensAll, List.mem_flatMap, List.mem_map, List.mem_range] at hls
    obtain ⟨L0, hL0, ls1, hl1, rfl⟩ := hls
    have hc0 : L0 = 0 ∨ L0 = 1 ∨ L0 = 2 ∨ L0 = 3 ∨ L0 = 4 ∨ L0 = 5 ∨ L0 = 6 ∨ L0 = 7 ∨ L0 = 8 := by omega
    rcases hc0 with rfl | rfl | rfl | rfl | rfl | rfl | rfl | rfl | rfl
    · skip
      obtain rfl : ls1 = [] := by simpa [lensAll] using hl1
      exact ⟨vN2, vG2, v2_0T, v2_0Q, v2_0a, v2_0b, v2_0ms, v2_0mo, v2_0⟩
    · skip
      obtain rfl : ls1 = [] := by simpa [lensAll] using hl1
      exact ⟨vN2, vG2, v2_1T, v2_1Q, v2_1a, v2_1b, v2_1ms, v2_1mo, v2_1⟩
    · skip
      obtain rfl : ls1 = [] := by simpa [lensAll] using hl1
      exact ⟨vN2, vG2, v2_2T, v2_2Q, v2_2a, v2_2b, v2_2ms, v2_2mo, v2_2⟩
    · skip
      obtain rfl : ls1 = [] := by simpa [lensAll] using hl1
      exact ⟨vN2, vG2, v2_3T, v2_3Q, v2_3a, v2_3b, v2_3ms, v2_3mo, v2_3⟩
    · skip
      obtain rfl : ls1 = [] := by simpa [lensAll] using hl1
      exact ⟨vN2, vG2, v2_4T, v2_4Q, v2_4a, v2_4b, v2_4ms, v2_4mo, v2_4⟩
    · skip
      obtain rfl : ls1 = [] := by simpa [lensAll] using hl1
      exact ⟨vN2, vG2, v2_5T, v2_5Q, v2_5a, v2_5b, v2_5ms, v2_5mo, v2_5⟩
    · skip
      obtain rfl : ls1 = [] := by simpa [lensAll] using hl1
      exact ⟨vN2, vG2, v2_6T, v2_6Q, v2_6a, v2_6b, v2_6ms, v2_6mo, v2_6⟩
    · skip
      obtain rfl : ls1 = [] := by simpa [lensAll] using hl1
      exact ⟨vN2, vG2, v2_7T, v2_7Q, v2_7a, v2_7b, v2_7ms, v2_7mo, v2_7⟩
    · skip
      obtain rfl : ls1 = [] := by simpa [lensAll] using hl1
      exact ⟨vN2, vG2, v2_8T, v2_8Q, v2_8a, v2_8b, v2_8ms, v2_8mo, v2_8⟩
theorem tapePoints_any (a0 : Int) (v1 : Value) (zs1 : List Int) (a2 : Bool) (v3 : Value) (zs3 : List Int) (w : World) (_h0 : -9223372036854775808 ≤ a0 ∧ a0 ≤ 9223372036854775807) (h1 : Ints w v1 zs1)  (h3 : Ints w v3 zs3) :
    Calls Try.prog 6 #[.int .i64 a0, v1, .bool a2, v3] w fun e w' => e = .returned (.bool true) ∧ Below w.heap.size w w' := by
  refine law_ofQ (ds := [.i a0, .is zs1, .b a2, .is zs3]) (nx0 := 10) (k := 200) (base := 100) (l := [(0, 3)]) (lens := [(1, 8)]) (by simp) (by simp) (by decide) (vs := #[.int .i64 a0, v1, .bool a2, v3]) ⟨rfl, h1, rfl, h3, trivial⟩ fun ks hk => ?_
  have hk : ks = [.i, .q, .b, .q] := by simpa [AD.kind, shapes, shapes1] using hk
  subst hk
  exact tapePoints_all
end Go.Proofs.Ytilhcamdjehpnaa
