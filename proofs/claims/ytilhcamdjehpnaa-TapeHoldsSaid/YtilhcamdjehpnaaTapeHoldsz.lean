/-
  'TapeHolds': whatever it is given.
-/
import Derived.Test.YtilhcamdjehpnaaTapeHolds0
import Derived.Test.YtilhcamdjehpnaaTapeHolds1
import Derived.Test.YtilhcamdjehpnaaTapeHolds2
import Derived.Test.YtilhcamdjehpnaaTapeHolds3
import Derived.Test.YtilhcamdjehpnaaTapeHolds4
import Derived.Test.YtilhcamdjehpnaaTapeHolds5
import Derived.Test.YtilhcamdjehpnaaTapeHolds6
import Derived.Test.YtilhcamdjehpnaaTapeHolds7
import Derived.Test.YtilhcamdjehpnaaTapeHolds8
namespace Go.Proofs.Ytilhcamdjehpnaa
open Go.RowKit Ex
theorem tapeHolds_all : ∀ tb, tb ∈ tabs [(0, 3)] → ∀ ls, ls ∈ lensAll [(1, 8)] → ∃ t, tabGood 100 t = true ∧ ∃ T TE Q QE, trisOK t [] T = true ∧ tesOK t T TE = true ∧ quasOK t [] Q = true ∧ qesOK t Q QE = true ∧ ∃ ms, AllMem (memRun tb ls t) ms ∧ lawRunF 4 10 200 [.i, .q, .q, .q] tb ls t TE QE ms = true := by
  intro tb ht ls hls
  simp only [tabs, List.range, List.range.loop, List.flatMap_cons, List.flatMap_nil, List.map_cons, List.map_nil, List.append_nil, List.cons_append, List.nil_append, List.mem_cons, List.not_mem_nil, or_false] at ht
  rcases ht with rfl | rfl | rfl
  · skip
    simp only [lensAll, List.mem_flatMap, List.mem_map, List.mem_range] at hls
    obtain ⟨L0, hL0, ls1, hl1, rfl⟩ := hls
    have hc0 : L0 = 0 ∨ L0 = 1 ∨ L0 = 2 ∨ L0 = 3 ∨ L0 = 4 ∨ L0 = 5 ∨ L0 = 6 ∨ L0 = 7 ∨ L0 = 8 := by omega
    rcases hc0 with rfl | rfl | rfl | rfl | rfl | rfl | rfl | rfl | rfl
    · skip
      obtain rfl : ls1 = [] := by simpa [lensAll] using hl1
      exact ⟨xN0, xG0, x0_0T, x0_0TE, x0_0Q, x0_0QE, x0_0a, x0_0b, x0_0c, x0_0d, x0_0ms, x0_0mo, x0_0⟩
    · skip
      obtain rfl : ls1 = [] := by simpa [lensAll] using hl1
      exact ⟨xN0, xG0, x0_1T, x0_1TE, x0_1Q, x0_1QE, x0_1a, x0_1b, x0_1c, x0_1d, x0_1ms, x0_1mo, x0_1⟩
    · skip
      obtain rfl : ls1 = [] := by simpa [lensAll] using hl1
      exact ⟨xN0, xG0, x0_2T, x0_2TE, x0_2Q, x0_2QE, x0_2a, x0_2b, x0_2c, x0_2d, x0_2ms, x0_2mo, x0_2⟩
    · skip
      obtain rfl : ls1 = [] := by simpa [lensAll] using hl1
      exact ⟨xN0, xG0, x0_3T, x0_3TE, x0_3Q, x0_3QE, x0_3a, x0_3b, x0_3c, x0_3d, x0_3ms, x0_3mo, x0_3⟩
    · skip
      obtain rfl : ls1 = [] := by simpa [lensAll] using hl1
      exact ⟨xN0, xG0, x0_4T, x0_4TE, x0_4Q, x0_4QE, x0_4a, x0_4b, x0_4c, x0_4d, x0_4ms, x0_4mo, x0_4⟩
    · skip
      obtain rfl : ls1 = [] := by simpa [lensAll] using hl1
      exact ⟨xN0, xG0, x0_5T, x0_5TE, x0_5Q, x0_5QE, x0_5a, x0_5b, x0_5c, x0_5d, x0_5ms, x0_5mo, x0_5⟩
    · skip
      obtain rfl : ls1 = [] := by simpa [lensAll] using hl1
      exact ⟨xN0, xG0, x0_6T, x0_6TE, x0_6Q, x0_6QE, x0_6a, x0_6b, x0_6c, x0_6d, x0_6ms, x0_6mo, x0_6⟩
    · skip
      obtain rfl : ls1 = [] := by simpa [lensAll] using hl1
      exact ⟨xN0, xG0, x0_7T, x0_7TE, x0_7Q, x0_7QE, x0_7a, x0_7b, x0_7c, x0_7d, x0_7ms, x0_7mo, x0_7⟩
    · skip
      obtain rfl : ls1 = [] := by simpa [lensAll] using hl1
      exact ⟨xN0, xG0, x0_8T, x0_8TE, x0_8Q, x0_8QE, x0_8a, x0_8b, x0_8c, x0_8d, x0_8ms, x0_8mo, x0_8⟩
  · skip
    simp only [lensAll, List.mem_flatMap, List.mem_map, List.mem_range] at hls
    obtain ⟨L0, hL0, ls1, hl1, rfl⟩ := hls
    have hc0 : L0 = 0 ∨ L0 = 1 ∨ L0 = 2 ∨ L0 = 3 ∨ L0 = 4 ∨ L0 = 5 ∨ L0 = 6 ∨ L0 = 7 ∨ L0 = 8 := by omega
    rcases hc0 with rfl | rfl | rfl | rfl | rfl | rfl | rfl | rfl | rfl
    · skip
      obtain rfl : ls1 = [] := by simpa [lensAll] using hl1
      exact ⟨xN1, xG1, x1_0T, x1_0TE, x1_0Q, x1_0QE, x1_0a, x1_0b, x1_0c, x1_0d, x1_0ms, x1_0mo, x1_0⟩
    · skip
      obtain rfl : ls1 = [] := by simpa [lensAll] using hl1
      exact ⟨xN1, xG1, x1_1T, x1_1TE, x1_1Q, x1_1QE, x1_1a, x1_1b, x1_1c, x1_1d, x1_1ms, x1_1mo, x1_1⟩
    · skip
      obtain rfl : ls1 = [] := by simpa [lensAll] using hl1
      exact ⟨xN1, xG1, x1_2T, x1_2TE, x1_2Q, x1_2QE, x1_2a, x1_2b, x1_2c, x1_2d, x1_2ms, x1_2mo, x1_2⟩
    · skip
      obtain rfl : ls1 = [] := by simpa [lensAll] using hl1
      exact ⟨xN1, xG1, x1_3T, x1_3TE, x1_3Q, x1_3QE, x1_3a, x1_3b, x1_3c, x1_3d, x1_3ms, x1_3mo, x1_3⟩
    · skip
      obtain rfl : ls1 = [] := by simpa [lensAll] using hl1
      exact ⟨xN1, xG1, x1_4T, x1_4TE, x1_4Q, x1_4QE, x1_4a, x1_4b, x1_4c, x1_4d, x1_4ms, x1_4mo, x1_4⟩
    · skip
      obtain rfl : ls1 = [] := by simpa [lensAll] using hl1
      exact ⟨xN1, xG1, x1_5T, x1_5TE, x1_5Q, x1_5QE, x1_5a, x1_5b, x1_5c, x1_5d, x1_5ms, x1_5mo, x1_5⟩
    · skip
      obtain rfl : ls1 = [] := by simpa [lensAll] using hl1
      exact ⟨xN1, xG1, x1_6T, x1_6TE, x1_6Q, x1_6QE, x1_6a, x1_6b, x1_6c, x1_6d, x1_6ms, x1_6mo, x1_6⟩
    · skip
      obtain rfl : ls1 = [] := by simpa [lensAll] using hl1
      exact ⟨xN1, xG1, x1_7T, x1_7TE, x1_7Q, x1_7QE, x1_7a, x1_7b, x1_7c, x1_7d, x1_7ms, x1_7mo, x1_7⟩
    · skip
      obtain rfl : ls1 = [] := by simpa [lensAll] using hl1
      exact ⟨xN1, xG1, x1_8T, x1_8TE, x1_8Q, x1_8QE, x1_8a, x1_8b, x1_8c, x1_8d, x1_8ms, x1_8mo, x1_8⟩
  · skip
    simp only [lensAll, List.mem_flatMap, List.mem_map, List.mem_range] at hls
    obtain ⟨L0, hL0, ls1, hl1, rfl⟩ := hls
    have hc0 : L0 = 0 ∨ L0 = 1 ∨ L0 = 2 ∨ L0 = 3 ∨ L0 = 4 ∨ L0 = 5 ∨ L0 = 6 ∨ L0 = 7 ∨ L0 = 8 := by omega
    rcases hc0 with rfl | rfl | rfl | rfl | rfl | rfl | rfl | rfl | rfl
    · skip
      obtain rfl : ls1 = [] := by simpa [lensAll] using hl1
      exact ⟨xN2, xG2, x2_0T, x2_0TE, x2_0Q, x2_0QE, x2_0a, x2_0b, x2_0c, x2_0d, x2_0ms, x2_0mo, x2_0⟩
    · skip
      obtain rfl : ls1 = [] := by simpa [lensAll] using hl1
      exact ⟨xN2, xG2, x2_1T, x2_1TE, x2_1Q, x2_1QE, x2_1a, x2_1b, x2_1c, x2_1d, x2_1ms, x2_1mo, x2_1⟩
    · skip
      obtain rfl : ls1 = [] := by simpa [lensAll] using hl1
      exact ⟨xN2, xG2, x2_2T, x2_2TE, x2_2Q, x2_2QE, x2_2a, x2_2b, x2_2c, x2_2d, x2_2ms, x2_2mo, x2_2⟩
    · skip
      obtain rfl : ls1 = [] := by simpa [lensAll] using hl1
      exact ⟨xN2, xG2, x2_3T, x2_3TE, x2_3Q, x2_3QE, x2_3a, x2_3b, x2_3c, x2_3d, x2_3ms, x2_3mo, x2_3⟩
    · skip
      obtain rfl : ls1 = [] := by simpa [lensAll] using hl1
      exact ⟨xN2, xG2, x2_4T, x2_4TE, x2_4Q, x2_4QE, x2_4a, x2_4b, x2_4c, x2_4d, x2_4ms, x2_4mo, x2_4⟩
    · skip
      obtain rfl : ls1 = [] := by simpa [lensAll] using hl1
      exact ⟨xN2, xG2, x2_5T, x2_5TE, x2_5Q, x2_5QE, x2_5a, x2_5b, x2_5c, x2_5d, x2_5ms, x2_5mo, x2_5⟩
    · skip
      obtain rfl : ls1 = [] := by simpa [lensAll] using hl1
      exact ⟨xN2, xG2, x2_6T, x2_6TE, x2_6Q, x2_6QE, x2_6a, x2_6b, x2_6c, x2_6d, x2_6ms, x2_6mo, x2_6⟩
    · skip
      obtain rfl : ls1 = [] := by simpa [lensAll] using hl1
      exact ⟨xN2, xG2, x2_7T, x2_7TE, x2_7Q, x2_7QE, x2_7a, x2_7b, x2_7c, x2_7d, x2_7ms, x2_7mo, x2_7⟩
    · skip
      obtain rfl : ls1 = [] := by simpa [lensAll] using hl1
      exact ⟨xN2, xG2, x2_8T, x2_8TE, x2_8Q, x2_8QE, x2_8a, x2_8b, x2_8c, x2_8d, x2_8ms, x2_8mo, x2_8⟩
theorem tapeHolds_any (a0 : Int) (v1 : Value) (zs1 : List Int) (v2 : Value) (zs2 : List Int) (v3 : Value) (zs3 : List Int) (w : World) (_h0 : -9223372036854775808 ≤ a0 ∧ a0 ≤ 9223372036854775807) (h1 : Ints w v1 zs1) (h2 : Ints w v2 zs2) (h3 : Ints w v3 zs3) :
    Calls Try.prog 4 #[.int .i64 a0, v1, v2, v3] w fun e w' => e = .returned (.bool true) ∧ Below w.heap.size w w' := by
  refine law_ofF (ds := [.i a0, .is zs1, .is zs2, .is zs3]) (nx0 := 10) (k := 200) (base := 100) (l := [(0, 3)]) (lens := [(1, 8)]) (by simp) (by simp) (by decide) (vs := #[.int .i64 a0, v1, v2, v3]) ⟨rfl, h1, h2, h3, trivial⟩ fun ks hk => ?_
  have hk : ks = [.i, .q, .q, .q] := by simpa [AD.kind, shapes, shapes1] using hk
  subst hk
  exact tapeHolds_all
end Go.Proofs.Ytilhcamdjehpnaa
