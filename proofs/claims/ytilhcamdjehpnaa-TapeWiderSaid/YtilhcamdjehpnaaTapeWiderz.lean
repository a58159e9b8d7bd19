/-
  'TapeWider': whatever it is given.
-/
import Derived.Test.YtilhcamdjehpnaaTapeWider0
import Derived.Test.YtilhcamdjehpnaaTapeWider1
import Derived.Test.YtilhcamdjehpnaaTapeWider2
import Derived.Test.YtilhcamdjehpnaaTapeWider3
import Derived.Test.YtilhcamdjehpnaaTapeWider4
import Derived.Test.YtilhcamdjehpnaaTapeWider5
import Derived.Test.YtilhcamdjehpnaaTapeWider6
import Derived.Test.YtilhcamdjehpnaaTapeWider7
import Derived.Test.YtilhcamdjehpnaaTapeWider8
namespace Go.Proofs.Ytilhcamdjehpnaa
open Go.RowKit Ex
theorem tapeWider_all : ∀ tb, tb ∈ tabs [(0, 3)] → ∀ ls, ls ∈ lensAll [(1, 8)] → ∃ t, tabGood 100 t = true ∧ ∃ T TE Q QE, trisOK t [] T = true ∧ tesOK t T TE = true ∧ quasOK t [] Q = true ∧ qesOK t Q QE = true ∧ ∃ ms, AllMem (memRun tb ls t) ms ∧ lawRunF 5 10 200 [.i, .q, .b, .q, .q] tb ls t TE QE ms = true := by
  intro tb ht ls hls
  simp only [tabs, List.range, List.range.loop, List.flatMap_cons, List.flatMap_nil, List.map_cons, List.map_nil, List.append_nil, List.cons_append, List.nil_append, List.mem_cons, List.not_mem_nil, or_false] at ht
  rcases ht with rfl | rfl | rfl
  · skip
    simp only [lensAll, List.mem_flatMap, List.mem_map, List.mem_range] at hls
    obtain ⟨L0, hL0, ls1, hl1, rfl⟩ := hls
    have hc0 : L0 = 0 ∨ L0 = 1 ∨ L0 = 2 ∨ L0 = 3 ∨ L0 = 4 ∨ L0 = 5 ∨ L0 = 6 ∨ L0 = 7 ∨ L0 = 8 := by omega
    rcases hc0 with rfl | rfl | rfl | rfl | rfl | rfl | rfl | rfl | rfl
    · skip
      obtain rfl : ls1 = [] := by simpa [lensAll] using hl1
      exact ⟨uN0, uG0, u0_0T, u0_0TE, u0_0Q, u0_0QE, u0_0a, u0_0b, u0_0c, u0_0d, u0_0ms, u0_0mo, u0_0⟩
    · skip
      obtain rfl : ls1 = [] := by simpa [lensAll] using hl1
      exact ⟨uN0, uG0, u0_1T, u0_1TE, u0_1Q, u0_1QE, u0_1a, u0_1b, u0_1c, u0_1d, u0_1ms, u0_1mo, u0_1⟩
    · skip
      obtain rfl : ls1 = [] := by simpa [lensAll] using hl1
      exact ⟨uN0, uG0, u0_2T, u0_2TE, u0_2Q, u0_2QE, u0_2a, u0_2b, u0_2c, u0_2d, u0_2ms, u0_2mo, u0_2⟩
    · skip
      obtain rfl : ls1 = [] := by simpa [lensAll] using hl1
      exact ⟨uN0, uG0, u0_3T, u0_3TE, u0_3Q, u0_3QE, u0_3a, u0_3b, u0_3c, u0_3d, u0_3ms, u0_3mo, u0_3⟩
    · skip
      obtain rfl : ls1 = [] := by simpa [lensAll] using hl1
      exact ⟨uN0, uG0, u0_4T, u0_4TE, u0_4Q, u0_4QE, u0_4a, u0_4b, u0_4c, u0_4d, u0_4ms, u0_4mo, u0_4⟩
    · skip
      obtain rfl : ls1 = [] := by simpa [lensAll] using hl1
      exact ⟨uN0, uG0, u0_5T, u0_5TE, u0_5Q, u0_5QE, u0_5a, u0_5b, u0_5c, u0_5d, u0_5ms, u0_5mo, u0_5⟩
    · skip
      obtain rfl : ls1 = [] := by simpa [lensAll] using hl1
      exact ⟨uN0, uG0, u0_6T, u0_6TE, u0_6Q, u0_6QE, u0_6a, u0_6b, u0_6c, u0_6d, u0_6ms, u0_6mo, u0_6⟩
    · skip
      obtain rfl : ls1 = [] := by simpa [lensAll] using hl1
      exact ⟨uN0, uG0, u0_7T, u0_7TE, u0_7Q, u0_7QE, u0_7a, u0_7b, u0_7c, u0_7d, u0_7ms, u0_7mo, u0_7⟩
    · skip
      obtain rfl : ls1 = [] := by simpa [lensAll] using hl1
      exact ⟨uN0, uG0, u0_8T, u0_8TE, u0_8Q, u0_8QE, u0_8a, u0_8b, u0_8c, u0_8d, u0_8ms, u0_8mo, u0_8⟩
  · skip
    simp only [lensAll, List.mem_flatMap, List.mem_map, List.mem_range] at hls
    obtain ⟨L0, hL0, ls1, hl1, rfl⟩ := hls
    have hc0 : L0 = 0 ∨ L0 = 1 ∨ L0 = 2 ∨ L0 = 3 ∨ L0 = 4 ∨ L0 = 5 ∨ L0 = 6 ∨ L0 = 7 ∨ L0 = 8 := by omega
    rcases hc0 with rfl | rfl | rfl | rfl | rfl | rfl | rfl | rfl | rfl
    · skip
      obtain rfl : ls1 = [] := by simpa [lensAll] using hl1
      exact ⟨uN1, uG1, u1_0T, u1_0TE, u1_0Q, u1_0QE, u1_0a, u1_0b, u1_0c, u1_0d, u1_0ms, u1_0mo, u1_0⟩
    · skip
      obtain rfl : ls1 = [] := by simpa [lensAll] using hl1
      exact ⟨uN1, uG1, u1_1T, u1_1TE, u1_1Q, u1_1QE, u1_1a, u1_1b, u1_1c, u1_1d, u1_1ms, u1_1mo, u1_1⟩
    · skip
      obtain rfl : ls1 = [] := by simpa [lensAll] using hl1
      exact ⟨uN1, uG1, u1_2T, u1_2TE, u1_2Q, u1_2QE, u1_2a, u1_2b, u1_2c, u1_2d, u1_2ms, u1_2mo, u1_2⟩
    · skip
      obtain rfl : ls1 = [] := by simpa [lensAll] using hl1
      exact ⟨uN1, uG1, u1_3T, u1_3TE, u1_3Q, u1_3QE, u1_3a, u1_3b, u1_3c, u1_3d, u1_3ms, u1_3mo, u1_3⟩
    · skip
      obtain rfl : ls1 = [] := by simpa [lensAll] using hl1
      exact ⟨uN1, uG1, u1_4T, u1_4TE, u1_4Q, u1_4QE, u1_4a, u1_4b, u1_4c, u1_4d, u1_4ms, u1_4mo, u1_4⟩
    · skip
      obtain rfl : ls1 = [] := by simpa [lensAll] using hl1
      exact ⟨uN1, uG1, u1_5T, u1_5TE, u1_5Q, u1_5QE, u1_5a, u1_5b, u1_5c, u1_5d, u1_5ms, u1_5mo, u1_5⟩
    · skip
      obtain rfl : ls1 = [] := by simpa [lensAll] using hl1
      exact ⟨uN1, uG1, u1_6T, u1_6TE, u1_6Q, u1_6QE, u1_6a, u1_6b, u1_6c, u1_6d, u1_6ms, u1_6mo, u1_6⟩
    · skip
      obtain rfl : ls1 = [] := by simpa [lensAll] using hl1
      exact ⟨uN1, uG1, u1_7T, u1_7TE, u1_7Q, u1_7QE, u1_7a, u1_7b, u1_7c, u1_7d, u1_7ms, u1_7mo, u1_7⟩
    · skip
      obtain rfl : ls1 = [] := by simpa [lensAll] using hl1
      exact ⟨uN1, uG1, u1_8T, u1_8TE, u1_8Q, u1_8QE, u1_8a, u1_8b, u1_8c, u1_8d, u1_8ms, u1_8mo, u1_8⟩
  · skip
    simp only [lensAll, List.mem_flatMap, List.mem_map, List.mem_range] at hls
    obtain ⟨L0, hL0, ls1, hl1, rfl⟩ := hls
    have hc0 : L0 = 0 ∨ L0 = 1 ∨ L0 = 2 ∨ L0 = 3 ∨ L0 = 4 ∨ L0 = 5 ∨ L0 = 6 ∨ L0 = 7 ∨ L0 = 8 := by omega
    rcases hc0 with rfl | rfl | rfl | rfl | rfl | rfl | rfl | rfl | rfl
    · skip
      obtain rfl : ls1 = [] := by simpa [lensAll] using hl1
      exact ⟨uN2, uG2, u2_0T, u2_0TE, u2_0Q, u2_0QE, u2_0a, u2_0b, u2_0c, u2_0d, u2_0ms, u2_0mo, u2_0⟩
    · skip
      obtain rfl : ls1 = [] := by simpa [lensAll] using hl1
      exact ⟨uN2, uG2, u2_1T, u2_1TE, u2_1Q, u2_1QE, u2_1a, u2_1b, u2_1c, u2_1d, u2_1ms, u2_1mo, u2_1⟩
    · skip
      obtain rfl : ls1 = [] := by simpa [lensAll] using hl1
      exact ⟨uN2, uG2, u2_2T, u2_2TE, u2_2Q, u2_2QE, u2_2a, u2_2b, u2_2c, u2_2d, u2_2ms, u2_2mo, u2_2⟩
    · skip
      obtain rfl : ls1 = [] := by simpa [lensAll] using hl1
      exact ⟨uN2, uG2, u2_3T, u2_3TE, u2_3Q, u2_3QE, u2_3a, u2_3b, u2_3c, u2_3d, u2_3ms, u2_3mo, u2_3⟩
    · skip
      obtain rfl : ls1 = [] := by simpa [lensAll] using hl1
      exact ⟨uN2, uG2, u2_4T, u2_4TE, u2_4Q, u2_4QE, u2_4a, u2_4b, u2_4c, u2_4d, u2_4ms, u2_4mo, u2_4⟩
    · skip
      obtain rfl : ls1 = [] := by simpa [lensAll] using hl1
      exact ⟨uN2, uG2, u2_5T, u2_5TE, u2_5Q, u2_5QE, u2_5a, u2_5b, u2_5c, u2_5d, u2_5ms, u2_5mo, u2_5⟩
    · skip
      obtain rfl : ls1 = [] := by simpa [lensAll] using hl1
      exact ⟨uN2, uG2, u2_6T, u2_6TE, u2_6Q, u2_6QE, u2_6a, u2_6b, u2_6c, u2_6d, u2_6ms, u2_6mo, u2_6⟩
    · skip
      obtain rfl : ls1 = [] := by simpa [lensAll] using hl1
      exact ⟨uN2, uG2, u2_7T, u2_7TE, u2_7Q, u2_7QE, u2_7a, u2_7b, u2_7c, u2_7d, u2_7ms, u2_7mo, u2_7⟩
    · skip
      obtain rfl : ls1 = [] := by simpa [lensAll] using hl1
      exact ⟨uN2, uG2, u2_8T, u2_8TE, u2_8Q, u2_8QE, u2_8a, u2_8b, u2_8c, u2_8d, u2_8ms, u2_8mo, u2_8⟩
theorem tapeWider_any (a0 : Int) (v1 : Value) (zs1 : List Int) (a2 : Bool) (v3 : Value) (zs3 : List Int) (v4 : Value) (zs4 : List Int) (w : World) (_h0 : -9223372036854775808 ≤ a0 ∧ a0 ≤ 9223372036854775807) (h1 : Ints w v1 zs1)  (h3 : Ints w v3 zs3) (h4 : Ints w v4 zs4) :
    Calls Try.prog 5 #[.int .i64 a0, v1, .bool a2, v3, v4] w fun e w' => e = .returned (.bool true) ∧ Below w.heap.size w w' := by
  refine law_ofF (ds := [.i a0, .is zs1, .b a2, .is zs3, .is zs4]) (nx0 := 10) (k := 200) (base := 100) (l := [(0, 3)]) (lens := [(1, 8)]) (by simp) (by simp) (by decide) (vs := #[.int .i64 a0, v1, .bool a2, v3, v4]) ⟨rfl, h1, rfl, h3, h4, trivial⟩ fun ks hk => ?_
  have hk : ks = [.i, .q, .b, .q, .q] := by simpa [AD.kind, shapes, shapes1] using hk
  subst hk
  exact tapeWider_all
end Go.Proofs.Ytilhcamdjehpnaa
