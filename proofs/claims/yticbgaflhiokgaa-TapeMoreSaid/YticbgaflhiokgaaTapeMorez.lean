/-
  'TapeMore': whatever it is given.
-/
import Derived.Test.YticbgaflhiokgaaTapeMore0
import Derived.Test.YticbgaflhiokgaaTapeMore1
import Derived.Test.YticbgaflhiokgaaTapeMore2
import Derived.Test.YticbgaflhiokgaaTapeMore3
import Derived.Test.YticbgaflhiokgaaTapeMore4
import Derived.Test.YticbgaflhiokgaaTapeMore5
import Derived.Test.YticbgaflhiokgaaTapeMore6
import Derived.Test.YticbgaflhiokgaaTapeMore7
import Derived.Test.YticbgaflhiokgaaTapeMore8
namespace Go.Proofs.Yticbgaflhiokgaa
open Go.RowKit Ex
theorem tapeMore_all : ∀ tb, tb ∈ tabs [(0, 3), (4, 9)] → ∀ ls, ls ∈ lensAll [(1, 8)] → ∃ t, tabGood 100 t = true ∧ ∃ ms, AllMem (memRun tb ls t) ms ∧ lawRunM 9 10 200 [.i, .q, .b, .q, .i] tb ls t ms = true := by
  intro tb ht ls hls
  simp only [tabs, List.range, List.range.loop, List.flatMap_cons, List.flatMap_nil, List.map_cons, List.map_nil, List.append_nil, List.cons_append, List.nil_append, List.mem_cons, List.not_mem_nil, or_false] at ht
  rcases ht with rfl | rfl | rfl | rfl | rfl | rfl | rfl | rfl | rfl | rfl | rfl | rfl | rfl | rfl | rfl | rfl | rfl | rfl | rfl | rfl | rfl | rfl | rfl | rfl | rfl | rfl | rfl
  · skip
    simp only [lensAll, List.mem_flatMap, List.mem_map, List.mem_range] at hls
    obtain ⟨L0, hL0, ls1, hl1, rfl⟩ := hls
    have hc0 : L0 = 0 ∨ L0 = 1 ∨ L0 = 2 ∨ L0 = 3 ∨ L0 = 4 ∨ L0 = 5 ∨ L0 = 6 ∨ L0 = 7 ∨ L0 = 8 := by omega
    rcases hc0 with rfl | rfl | rfl | rfl | rfl | rfl | rfl | rfl | rfl
    · skip
      obtain rfl : ls1 = [] := by simpa [lensAll] using hl1
      exact ⟨wN0, wG0, w0_0_0ms, w0_0_0mo, w0_0_0⟩
    · skip
      obtain rfl : ls1 = [] := by simpa [lensAll] using hl1
      exact ⟨wN0, wG0, w0_0_1ms, w0_0_1mo, w0_0_1⟩
    · skip
      obtain rfl : ls1 = [] := by simpa [lensAll] using hl1
      exact ⟨wN0, wG0, w0_0_2ms, w0_0_2mo, w0_0_2⟩
    · skip
      obtain rfl : ls1 = [] := by simpa [lensAll] using hl1
      exact ⟨wN0, wG0, w0_0_3ms, w0_0_3mo, w0_0_3⟩
    · skip
      obtain rfl : ls1 = [] := by simpa [lensAll] using hl1
      exact ⟨wN0, wG0, w0_0_4ms, w0_0_4mo, w0_0_4⟩
    · skip
      obtain rfl : ls1 = [] := by simpa [lensAll] using hl1
      exact ⟨wN0, wG0, w0_0_5ms, w0_0_5mo, w0_0_5⟩
    · skip
      obtain rfl : ls1 = [] := by simpa [lensAll] using hl1
      exact ⟨wN0, wG0, w0_0_6ms, w0_0_6mo, w0_0_6⟩
    · skip
      obtain rfl : ls1 = [] := by simpa [lensAll] using hl1
      exact ⟨wN0, wG0, w0_0_7ms, w0_0_7mo, w0_0_7⟩
    · skip
      obtain rfl : ls1 = [] := by simpa [lensAll] using hl1
      exact ⟨wN0, wG0, w0_0_8ms, w0_0_8mo, w0_0_8⟩
  · skip
    simp only [lensAll, List.mem_flatMap, List.mem_map, List.mem_range] at hls
    obtain ⟨L0, hL0, ls1, hl1, rfl⟩ := hls
    have hc0 : L0 = 0 ∨ L0 = 1 ∨ L0 = 2 ∨ L0 = 3 ∨ L0 = 4 ∨ L0 = 5 ∨ L0 = 6 ∨ L0 = 7 ∨ L0 = 8 := by omega
    rcases hc0 with rfl | rfl | rfl | rfl | rfl | rfl | rfl | rfl | rfl
    · skip
      obtain rfl : ls1 = [] := by simpa [lensAll] using hl1
      exact ⟨wN0, wG0, w0_1_0ms, w0_1_0mo, w0_1_0⟩
    · skip
      obtain rfl : ls1 = [] := by simpa [lensAll] using hl1
      exact ⟨wN0, wG0, w0_1_1ms, w0_1_1mo, w0_1_1⟩
    · skip
      obtain rfl : ls1 = [] := by simpa [lensAll] using hl1
      exact ⟨wN0, wG0, w0_1_2ms, w0_1_2mo, w0_1_2⟩
    · skip
      obtain rfl : ls1 = [] := by simpa [lensAll] using hl1
      exact ⟨wN0, wG0, w0_1_3ms, w0_1_3mo, w0_1_3⟩
    · skip
      obtain rfl : ls1 = [] := by simpa [lensAll] using hl1
      exact ⟨wN0, wG0, w0_1_4ms, w0_1_4mo, w0_1_4⟩
    · skip
      obtain rfl : ls1 = [] := by simpa [lensAll] using hl1
      exact ⟨wN0, wG0, w0_1_5ms, w0_1_5mo, w0_1_5⟩
    · skip
      obtain rfl : ls1 = [] := by simpa [lensAll] using hl1
      exact ⟨wN0, wG0, w0_1_6ms, w0_1_6mo, w0_1_6⟩
    · skip
      obtain rfl : ls1 = [] := by simpa [lensAll] using hl1
      exact ⟨wN0, wG0, w0_1_7ms, w0_1_7mo, w0_1_7⟩
    · skip
      obtain rfl : ls1 = [] := by simpa [lensAll] using hl1
      exact ⟨wN0, wG0, w0_1_8ms, w0_1_8mo, w0_1_8⟩
  · skip
    simp only [lensAll, List.mem_flatMap, List.mem_map, List.mem_range] at hls
    obtain ⟨L0, hL0, ls1, hl1, rfl⟩ := hls
    have hc0 : L0 = 0 ∨ L0 = 1 ∨ L0 = 2 ∨ L0 = 3 ∨ L0 = 4 ∨ L0 = 5 ∨ L0 = 6 ∨ L0 = 7 ∨ L0 = 8 := by omega
    rcases hc0 with rfl | rfl | rfl | rfl | rfl | rfl | rfl | rfl | rfl
    · skip
      obtain rfl : ls1 = [] := by simpa [lensAll] using hl1
      exact ⟨wN0, wG0, w0_2_0ms, w0_2_0mo, w0_2_0⟩
    · skip
      obtain rfl : ls1 = [] := by simpa [lensAll] using hl1
      exact ⟨wN0, wG0, w0_2_1ms, w0_2_1mo, w0_2_1⟩
    · skip
      obtain rfl : ls1 = [] := by simpa [lensAll] using hl1
      exact ⟨wN0, wG0, w0_2_2ms, w0_2_2mo, w0_2_2⟩
    · skip
      obtain rfl : ls1 = [] := by simpa [lensAll] using hl1
      exact ⟨wN0, wG0, w0_2_3ms, w0_2_3mo, w0_2_3⟩
    · skip
      obtain rfl : ls1 = [] := by simpa [lensAll] using hl1
      exact ⟨wN0, wG0, w0_2_4ms, w0_2_4mo, w0_2_4⟩
    · skip
      obtain rfl : ls1 = [] := by simpa [lensAll] using hl1
      exact ⟨wN0, wG0, w0_2_5ms, w0_2_5mo, w0_2_5⟩
    · skip
      obtain rfl : ls1 = [] := by simpa [lensAll] using hl1
      exact ⟨wN0, wG0, w0_2_6ms, w0_2_6mo, w0_2_6⟩
    · skip
      obtain rfl : ls1 = [] := by simpa [lensAll] using hl1
      exact ⟨wN0, wG0, w0_2_7ms, w0_2_7mo, w0_2_7⟩
    · skip
      obtain rfl : ls1 = [] := by simpa [lensAll] using hl1
      exact ⟨wN0, wG0, w0_2_8ms, w0_2_8mo, w0_2_8⟩
  · skip
    simp only [lensAll, List.mem_flatMap, List.mem_map, List.mem_range] at hls
    obtain ⟨L0, hL0, ls1, hl1, rfl⟩ := hls
    have hc0 : L0 = 0 ∨ L0 = 1 ∨ L0 = 2 ∨ L0 = 3 ∨ L0 = 4 ∨ L0 = 5 ∨ L0 = 6 ∨ L0 = 7 ∨ L0 = 8 := by omega
    rcases hc0 with rfl | rfl | rfl | rfl | rfl | rfl | rfl | rfl | rfl
    · skip
      obtain rfl : ls1 = [] := by simpa [lensAll] using hl1
      exact ⟨wN0, wG0, w0_3_0ms, w0_3_0mo, w0_3_0⟩
    · skip
      obtain rfl : ls1 = [] := by simpa [lensAll] using hl1
      exact ⟨wN0, wG0, w0_3_1ms, w0_3_1mo, w0_3_1⟩
    · skip
      obtain rfl : ls1 = [] := by simpa [lensAll] using hl1
      exact ⟨wN0, wG0, w0_3_2ms, w0_3_2mo, w0_3_2⟩
    · skip
      obtain rfl : ls1 = [] := by simpa [lensAll] using hl1
      exact ⟨wN0, wG0, w0_3_3ms, w0_3_3mo, w0_3_3⟩
    · skip
      obtain rfl : ls1 = [] := by simpa [lensAll] using hl1
      exact ⟨wN0, wG0, w0_3_4ms, w0_3_4mo, w0_3_4⟩
    · skip
      obtain rfl : ls1 = [] := by simpa [lensAll] using hl1
      exact ⟨wN0, wG0, w0_3_5ms, w0_3_5mo, w0_3_5⟩
    · skip
      obtain rfl : ls1 = [] := by simpa [lensAll] using hl1
      exact ⟨wN0, wG0, w0_3_6ms, w0_3_6mo, w0_3_6⟩
    · skip
      obtain rfl : ls1 = [] := by simpa [lensAll] using hl1
      exact ⟨wN0, wG0, w0_3_7ms, w0_3_7mo, w0_3_7⟩
    · skip
      obtain rfl : ls1 = [] := by simpa [lensAll] using hl1
      exact ⟨wN0, wG0, w0_3_8ms, w0_3_8mo, w0_3_8⟩
  · skip
    simp only [lensAll, List.mem_flatMap, List.mem_map, List.mem_range] at hls
    obtain ⟨L0, hL0, ls1, hl1, rfl⟩ := hls
    have hc0 : L0 = 0 ∨ L0 = 1 ∨ L0 = 2 ∨ L0 = 3 ∨ L0 = 4 ∨ L0 = 5 ∨ L0 = 6 ∨ L0 = 7 ∨ L0 = 8 := by omega
    rcases hc0 with rfl | rfl | rfl | rfl | rfl | rfl | rfl | rfl | rfl
    · skip
      obtain rfl : ls1 = [] := by simpa [lensAll] using hl1
      exact ⟨wN0, wG0, w0_4_0ms, w0_4_0mo, w0_4_0⟩
    · skip
      obtain rfl : ls1 = [] := by simpa [lensAll] using hl1
      exact ⟨wN0, wG0, w0_4_1ms, w0_4_1mo, w0_4_1⟩
    · skip
      obtain rfl : ls1 = [] := by simpa [lensAll] using hl1
      exact ⟨wN0, wG0, w0_4_2ms, w0_4_2mo, w0_4_2⟩
    · skip
      obtain rfl : ls1 = [] := by simpa [lensAll] using hl1
      exact ⟨wN0, wG0, w0_4_3ms, w0_4_3mo, w0_4_3⟩
    · skip
      obtain rfl : ls1 = [] := by simpa [lensAll] using hl1
      exact ⟨wN0, wG0, w0_4_4ms, w0_4_4mo, w0_4_4⟩
    · skip
      obtain rfl : ls1 = [] := by simpa [lensAll] using hl1
      exact ⟨wN0, wG0, w0_4_5ms, w0_4_5mo, w0_4_5⟩
    · skip
      obtain rfl : ls1 = [] := by simpa [lensAll] using hl1
      exact ⟨wN0, wG0, w0_4_6ms, w0_4_6mo, w0_4_6⟩
    · skip
      obtain rfl : ls1 = [] := by simpa [lensAll] using hl1
      exact ⟨wN0, wG0, w0_4_7ms, w0_4_7mo, w0_4_7⟩
    · skip
      obtain rfl : ls1 = [] := by simpa [lensAll] using hl1
      exact ⟨wN0, wG0, w0_4_8ms, w0_4_8mo, w0_4_8⟩
  · skip
    simp only [lensAll, List.mem_flatMap, List.mem_map, List.mem_range] at hls
    obtain ⟨L0, hL0, ls1, hl1, rfl⟩ := hls
    have hc0 : L0 = 0 ∨ L0 = 1 ∨ L0 = 2 ∨ L0 = 3 ∨ L0 = 4 ∨ L0 = 5 ∨ L0 = 6 ∨ L0 = 7 ∨ L0 = 8 := by omega
    rcases hc0 with rfl | rfl | rfl | rfl | rfl | rfl | rfl | rfl | rfl
    · skip
      obtain rfl : ls1 = [] := by simpa [lensAll] using hl1
      exact ⟨wN0, wG0, w0_5_0ms, w0_5_0mo, w0_5_0⟩
    · skip
      obtain rfl : ls1 = [] := by simpa [lensAll] using hl1
      exact ⟨wN0, wG0, w0_5_1ms, w0_5_1mo, w0_5_1⟩
    · skip
      obtain rfl : ls1 = [] := by simpa [lensAll] using hl1
      exact ⟨wN0, wG0, w0_5_2ms, w0_5_2mo, w0_5_2⟩
    · skip
      obtain rfl : ls1 = [] := by simpa [lensAll] using hl1
      exact ⟨wN0, wG0, w0_5_3ms, w0_5_3mo, w0_5_3⟩
    · skip
      obtain rfl : ls1 = [] := by simpa [lensAll] using hl1
      exact ⟨wN0, wG0, w0_5_4ms, w0_5_4mo, w0_5_4⟩
    · skip
      obtain rfl : ls1 = [] := by simpa [lensAll] using hl1
      exact ⟨wN0, wG0, w0_5_5ms, w0_5_5mo, w0_5_5⟩
    · skip
      obtain rfl : ls1 = [] := by simpa [lensAll] using hl1
      exact ⟨wN0, wG0, w0_5_6ms, w0_5_6mo, w0_5_6⟩
    · skip
      obtain rfl : ls1 = [] := by simpa [lensAll] using hl1
      exact ⟨wN0, wG0, w0_5_7ms, w0_5_7mo, w0_5_7⟩
    · skip
      obtain rfl : ls1 = [] := by simpa [lensAll] using hl1
      exact ⟨wN0, wG0, w0_5_8ms, w0_5_8mo, w0_5_8⟩
  · skip
    simp only [lensAll, List.mem_flatMap, List.mem_map, List.mem_range] at hls
    obtain ⟨L0, hL0, ls1, hl1, rfl⟩ := hls
    have hc0 : L0 = 0 ∨ L0 = 1 ∨ L0 = 2 ∨ L0 = 3 ∨ L0 = 4 ∨ L0 = 5 ∨ L0 = 6 ∨ L0 = 7 ∨ L0 = 8 := by omega
    rcases hc0 with rfl | rfl | rfl | rfl | rfl | rfl | rfl | rfl | rfl
    · skip
      obtain rfl : ls1 = [] := by simpa [lensAll] using hl1
      exact ⟨wN0, wG0, w0_6_0ms, w0_6_0mo, w0_6_0⟩
    · skip
      obtain rfl : ls1 = [] := by simpa [lensAll] using hl1
      exact ⟨wN0, wG0, w0_6_1ms, w0_6_1mo, w0_6_1⟩
    · skip
      obtain rfl : ls1 = [] := by simpa [lensAll] using hl1
      exact ⟨wN0, wG0, w0_6_2ms, w0_6_2mo, w0_6_2⟩
    · skip
      obtain rfl : ls1 = [] := by simpa [lensAll] using hl1
      exact ⟨wN0, wG0, w0_6_3ms, w0_6_3mo, w0_6_3⟩
    · skip
      obtain rfl : ls1 = [] := by simpa [lensAll] using hl1
      exact ⟨wN0, wG0, w0_6_4ms, w0_6_4mo, w0_6_4⟩
    · skip
      obtain rfl : ls1 = [] := by simpa [lensAll] using hl1
      exact ⟨wN0, wG0, w0_6_5ms, w0_6_5mo, w0_6_5⟩
    · skip
      obtain rfl : ls1 = [] := by simpa [lensAll] using hl1
      exact ⟨wN0, wG0, w0_6_6ms, w0_6_6mo, w0_6_6⟩
    · skip
      obtain rfl : ls1 = [] := by simpa [lensAll] using hl1
      exact ⟨wN0, wG0, w0_6_7ms, w0_6_7mo, w0_6_7⟩
    · skip
      obtain rfl : ls1 = [] := by simpa [lensAll] using hl1
      exact ⟨wN0, wG0, w0_6_8ms, w0_6_8mo, w0_6_8⟩
  · skip
    simp only [lensAll, List.mem_flatMap, List.mem_map, List.mem_range] at hls
    obtain ⟨L0, hL0, ls1, hl1, rfl⟩ := hls
    have hc0 : L0 = 0 ∨ L0 = 1 ∨ L0 = 2 ∨ L0 = 3 ∨ L0 = 4 ∨ L0 = 5 ∨ L0 = 6 ∨ L0 = 7 ∨ L0 = 8 := by omega
    rcases hc0 with rfl | rfl | rfl | rfl | rfl | rfl | rfl | rfl | rfl
    · skip
      obtain rfl : ls1 = [] := by simpa [lensAll] using hl1
      exact ⟨wN0, wG0, w0_7_0ms, w0_7_0mo, w0_7_0⟩
    · skip
      obtain rfl : ls1 = [] := by simpa [lensAll] using hl1
      exact ⟨wN0, wG0, w0_7_1ms, w0_7_1mo, w0_7_1⟩
    · skip
      obtain rfl : ls1 = [] := by simpa [lensAll] using hl1
      exact ⟨wN0, wG0, w0_7_2ms, w0_7_2mo, w0_7_2⟩
    · skip
      obtain rfl : ls1 = [] := by simpa [lensAll] using hl1
      exact ⟨wN0, wG0, w0_7_3ms, w0_7_3mo, w0_7_3⟩
    · skip
      obtain rfl : ls1 = [] := by simpa [lensAll] using hl1
      exact ⟨wN0, wG0, w0_7_4ms, w0_7_4mo, w0_7_4⟩
    · skip
      obtain rfl : ls1 = [] := by simpa [lensAll] using hl1
      exact ⟨wN0, wG0, w0_7_5ms, w0_7_5mo, w0_7_5⟩
    · skip
      obtain rfl : ls1 = [] := by simpa [lensAll] using hl1
      exact ⟨wN0, wG0, w0_7_6ms, w0_7_6mo, w0_7_6⟩
    · skip
      obtain rfl : ls1 = [] := by simpa [lensAll] using hl1
      exact ⟨wN0, wG0, w0_7_7ms, w0_7_7mo, w0_7_7⟩
    · skip
      obtain rfl : ls1 = [] := by simpa [lensAll] using hl1
      exact ⟨wN0, wG0, w0_7_8ms, w0_7_8mo, w0_7_8⟩
  · skip
    simp only [lensAll, List.mem_flatMap, List.mem_map, List.mem_range] at hls
    obtain ⟨L0, hL0, ls1, hl1, rfl⟩ := hls
    have hc0 : L0 = 0 ∨ L0 = 1 ∨ L0 = 2 ∨ L0 = 3 ∨ L0 = 4 ∨ L0 = 5 ∨ L0 = 6 ∨ L0 = 7 ∨ L0 = 8 := by omega
    rcases hc0 with rfl | rfl | rfl | rfl | rfl | rfl | rfl | rfl | rfl
    · skip
      obtain rfl : ls1 = [] := by simpa [lensAll] using hl1
      exact ⟨wN0, wG0, w0_8_0ms, w0_8_0mo, w0_8_0⟩
    · skip
      obtain rfl : ls1 = [] := by simpa [lensAll] using hl1
      exact ⟨wN0, wG0, w0_8_1ms, w0_8_1mo, w0_8_1⟩
    · skip
      obtain rfl : ls1 = [] := by simpa [lensAll] using hl1
      exact ⟨wN0, wG0, w0_8_2ms, w0_8_2mo, w0_8_2⟩
    · skip
      obtain rfl : ls1 = [] := by simpa [lensAll] using hl1
      exact ⟨wN0, wG0, w0_8_3ms, w0_8_3mo, w0_8_3⟩
    · skip
      obtain rfl : ls1 = [] := by simpa [lensAll] using hl1
      exact ⟨wN0, wG0, w0_8_4ms, w0_8_4mo, w0_8_4⟩
    · skip
      obtain rfl : ls1 = [] := by simpa [lensAll] using hl1
      exact ⟨wN0, wG0, w0_8_5ms, w0_8_5mo, w0_8_5⟩
    · skip
      obtain rfl : ls1 = [] := by simpa [lensAll] using hl1
      exact ⟨wN0, wG0, w0_8_6ms, w0_8_6mo, w0_8_6⟩
    · skip
      obtain rfl : ls1 = [] := by simpa [lensAll] using hl1
      exact ⟨wN0, wG0, w0_8_7ms, w0_8_7mo, w0_8_7⟩
    · skip
      obtain rfl : ls1 = [] := by simpa [lensAll] using hl1
      exact ⟨wN0, wG0, w0_8_8ms, w0_8_8mo, w0_8_8⟩
  · skip
    simp only [lensAll, List.mem_flatMap, List.mem_map, List.mem_range] at hls
    obtain ⟨L0, hL0, ls1, hl1, rfl⟩ := hls
    have hc0 : L0 = 0 ∨ L0 = 1 ∨ L0 = 2 ∨ L0 = 3 ∨ L0 = 4 ∨ L0 = 5 ∨ L0 = 6 ∨ L0 = 7 ∨ L0 = 8 := by omega
    rcases hc0 with rfl | rfl | rfl | rfl | rfl | rfl | rfl | rfl | rfl
    · skip
      obtain rfl : ls1 = [] := by simpa [lensAll] using hl1
      exact ⟨wN1, wG1, w1_0_0ms, w1_0_0mo, w1_0_0⟩
    · skip
      obtain rfl : ls1 = [] := by simpa [lensAll] using hl1
      exact ⟨wN1, wG1, w1_0_1ms, w1_0_1mo, w1_0_1⟩
    · skip
      obtain rfl : ls1 = [] := by simpa [lensAll] using hl1
      exact ⟨wN1, wG1, w1_0_2ms, w1_0_2mo, w1_0_2⟩
    · skip
      obtain rfl : ls1 = [] := by simpa [lensAll] using hl1
      exact ⟨wN1, wG1, w1_0_3ms, w1_0_3mo, w1_0_3⟩
    · skip
      obtain rfl : ls1 = [] := by simpa [lensAll] using hl1
      exact ⟨wN1, wG1, w1_0_4ms, w1_0_4mo, w1_0_4⟩
    · skip
      obtain rfl : ls1 = [] := by simpa [lensAll] using hl1
      exact ⟨wN1, wG1, w1_0_5ms, w1_0_5mo, w1_0_5⟩
    · skip
      obtain rfl : ls1 = [] := by simpa [lensAll] using hl1
      exact ⟨wN1, wG1, w1_0_6ms, w1_0_6mo, w1_0_6⟩
    · skip
      obtain rfl : ls1 = [] := by simpa [lensAll] using hl1
      exact ⟨wN1, wG1, w1_0_7ms, w1_0_7mo, w1_0_7⟩
    · skip
      obtain rfl : ls1 = [] := by simpa [lensAll] using hl1
      exact ⟨wN1, wG1, w1_0_8ms, w1_0_8mo, w1_0_8⟩
  · skip
    simp only [lensAll, List.mem_flatMap, List.mem_map, List.mem_range] at hls
    obtain ⟨L0, hL0, ls1, hl1, rfl⟩ := hls
    have hc0 : L0 = 0 ∨ L0 = 1 ∨ L0 = 2 ∨ L0 = 3 ∨ L0 = 4 ∨ L0 = 5 ∨ L0 = 6 ∨ L0 = 7 ∨ L0 = 8 := by omega
    rcases hc0 with rfl | rfl | rfl | rfl | rfl | rfl | rfl | rfl | rfl
    · skip
      obtain rfl : ls1 = [] := by simpa [lensAll] using hl1
      exact ⟨wN1, wG1, w1_1_0ms, w1_1_0mo, w1_1_0⟩
    · skip
      obtain rfl : ls1 = [] := by simpa [lensAll] using hl1
      exact ⟨wN1, wG1, w1_1_1ms, w1_1_1mo, w1_1_1⟩
    · skip
      obtain rfl : ls1 = [] := by simpa [lensAll] using hl1
      exact ⟨wN1, wG1, w1_1_2ms, w1_1_2mo, w1_1_2⟩
    · skip
      obtain rfl : ls1 = [] := by simpa [lensAll] using hl1
      exact ⟨wN1, wG1, w1_1_3ms, w1_1_3mo, w1_1_3⟩
    · skip
      obtain rfl : ls1 = [] := by simpa [lensAll] using hl1
      exact ⟨wN1, wG1, w1_1_4ms, w1_1_4mo, w1_1_4⟩
    · skip
      obtain rfl : ls1 = [] := by simpa [lensAll] using hl1
      exact ⟨wN1, wG1, w1_1_5ms, w1_1_5mo, w1_1_5⟩
    · skip
      obtain rfl : ls1 = [] := by simpa [lensAll] using hl1
      exact ⟨wN1, wG1, w1_1_6ms, w1_1_6mo, w1_1_6⟩
    · skip
      obtain rfl : ls1 = [] := by simpa [lensAll] using hl1
      exact ⟨wN1, wG1, w1_1_7ms, w1_1_7mo, w1_1_7⟩
    · skip
      obtain rfl : ls1 = [] := by simpa [lensAll] using hl1
      exact ⟨wN1, wG1, w1_1_8ms, w1_1_8mo, w1_1_8⟩
  · skip
    simp only [lensAll, List.mem_flatMap, List.mem_map, List.mem_range] at hls
    obtain ⟨L0, hL0, ls1, hl1, rfl⟩ := hls
    have hc0 : L0 = 0 ∨ L0 = 1 ∨ L0 = 2 ∨ L0 = 3 ∨ L0 = 4 ∨ L0 = 5 ∨ L0 = 6 ∨ L0 = 7 ∨ L0 = 8 := by omega
    rcases hc0 with rfl | rfl | rfl | rfl | rfl | rfl | rfl | rfl | rfl
    · skip
      obtain rfl : ls1 = [] := by simpa [lensAll] using hl1
      exact ⟨wN1, wG1, w1_2_0ms, w1_2_0mo, w1_2_0⟩
    · skip
      obtain rfl : ls1 = [] := by simpa [lensAll] using hl1
      exact ⟨wN1, wG1, w1_2_1ms, w1_2_1mo, w1_2_1⟩
    · skip
      obtain rfl : ls1 = [] := by simpa [lensAll] using hl1
      exact ⟨wN1, wG1, w1_2_2ms, w1_2_2mo, w1_2_2⟩
    · skip
      obtain rfl : ls1 = [] := by simpa [lensAll] using hl1
      exact ⟨wN1, wG1, w1_2_3ms, w1_2_3mo, w1_2_3⟩
    · skip
      obtain rfl : ls1 = [] := by simpa [lensAll] using hl1
      exact ⟨wN1, wG1, w1_2_4ms, w1_2_4mo, w1_2_4⟩
    · skip
      obtain rfl : ls1 = [] := by simpa [lensAll] using hl1
      exact ⟨wN1, wG1, w1_2_5ms, w1_2_5mo, w1_2_5⟩
    · skip
      obtain rfl : ls1 = [] := by simpa [lensAll] using hl1
      exact ⟨wN1, wG1, w1_2_6ms, w1_2_6mo, w1_2_6⟩
    · skip
      obtain rfl : ls1 = [] := by simpa [lensAll] using hl1
      exact ⟨wN1, wG1, w1_2_7ms, w1_2_7mo, w1_2_7⟩
    · skip
      obtain rfl : ls1 = [] := by simpa [lensAll] using hl1
      exact ⟨wN1, wG1, w1_2_8ms, w1_2_8mo, w1_2_8⟩
  · skip
    simp only [lensAll, List.mem_flatMap, List.mem_map, List.mem_range] at hls
    obtain ⟨L0, hL0, ls1, hl1, rfl⟩ := hls
    have hc0 : L0 = 0 ∨ L0 = 1 ∨ L0 = 2 ∨ L0 = 3 ∨ L0 = 4 ∨ L0 = 5 ∨ L0 = 6 ∨ L0 = 7 ∨ L0 = 8 := by omega
    rcases hc0 with rfl | rfl | rfl | rfl | rfl | rfl | rfl | rfl | rfl
    · skip
      obtain rfl : ls1 = [] := by simpa [lensAll] using hl1
      exact ⟨wN1, wG1, w1_3_0ms, w1_3_0mo, w1_3_0⟩
    · skip
      obtain rfl : ls1 = [] := by simpa [lensAll] using hl1
      exact ⟨wN1, wG1, w1_3_1ms, w1_3_1mo, w1_3_1⟩
    · skip
      obtain rfl : ls1 = [] := by simpa [lensAll] using hl1
      exact ⟨wN1, wG1, w1_3_2ms, w1_3_2mo, w1_3_2⟩
    · skip
      obtain rfl : ls1 = [] := by simpa [lensAll] using hl1
      exact ⟨wN1, wG1, w1_3_3ms, w1_3_3mo, w1_3_3⟩
    · skip
      obtain rfl : ls1 = [] := by simpa [lensAll] using hl1
      exact ⟨wN1, wG1, w1_3_4ms, w1_3_4mo, w1_3_4⟩
    · skip
      obtain rfl : ls1 = [] := by simpa [lensAll] using hl1
      exact ⟨wN1, wG1, w1_3_5ms, w1_3_5mo, w1_3_5⟩
    · skip
      obtain rfl : ls1 = [] := by simpa [lensAll] using hl1
      exact ⟨wN1, wG1, w1_3_6ms, w1_3_6mo, w1_3_6⟩
    · skip
      obtain rfl : ls1 = [] := by simpa [lensAll] using hl1
      exact ⟨wN1, wG1, w1_3_7ms, w1_3_7mo, w1_3_7⟩
    · skip
      obtain rfl : ls1 = [] := by simpa [lensAll] using hl1
      exact ⟨wN1, wG1, w1_3_8ms, w1_3_8mo, w1_3_8⟩
  · skip
    simp only [lensAll, List.mem_flatMap, List.mem_map, List.mem_range] at hls
    obtain ⟨L0, hL0, ls1, hl1, rfl⟩ := hls
    have hc0 : L0 = 0 ∨ L0 = 1 ∨ L0 = 2 ∨ L0 = 3 ∨ L0 = 4 ∨ L0 = 5 ∨ L0 = 6 ∨ L0 = 7 ∨ L0 = 8 := by omega
    rcases hc0 with rfl | rfl | rfl | rfl | rfl | rfl | rfl | rfl | rfl
    · skip
      obtain rfl : ls1 = [] := by simpa [lensAll] using hl1
      exact ⟨wN1, wG1, w1_4_0ms, w1_4_0mo, w1_4_0⟩
    · skip
      obtain rfl : ls1 = [] := by simpa [lensAll] using hl1
      exact ⟨wN1, wG1, w1_4_1ms, w1_4_1mo, w1_4_1⟩
    · skip
      obtain rfl : ls1 = [] := by simpa [lensAll] using hl1
      exact ⟨wN1, wG1, w1_4_2ms, w1_4_2mo, w1_4_2⟩
    · skip
      obtain rfl : ls1 = [] := by simpa [lensAll] using hl1
      exact ⟨wN1, wG1, w1_4_3ms, w1_4_3mo, w1_4_3⟩
    · skip
      obtain rfl : ls1 = [] := by simpa [lensAll] using hl1
      exact ⟨wN1, wG1, w1_4_4ms, w1_4_4mo, w1_4_4⟩
    · skip
      obtain rfl : ls1 = [] := by simpa [lensAll] using hl1
      exact ⟨wN1, wG1, w1_4_5ms, w1_4_5mo, w1_4_5⟩
    · skip
      obtain rfl : ls1 = [] := by simpa [lensAll] using hl1
      exact ⟨wN1, wG1, w1_4_6ms, w1_4_6mo, w1_4_6⟩
    · skip
      obtain rfl : ls1 = [] := by simpa [lensAll] using hl1
      exact ⟨wN1, wG1, w1_4_7ms, w1_4_7mo, w1_4_7⟩
    · skip
      obtain rfl : ls1 = [] := by simpa [lensAll] using hl1
      exact ⟨wN1, wG1, w1_4_8ms, w1_4_8mo, w1_4_8⟩
  · skip
    simp only [lensAll, List.mem_flatMap, List.mem_map, List.mem_range] at hls
    obtain ⟨L0, hL0, ls1, hl1, rfl⟩ := hls
    have hc0 : L0 = 0 ∨ L0 = 1 ∨ L0 = 2 ∨ L0 = 3 ∨ L0 = 4 ∨ L0 = 5 ∨ L0 = 6 ∨ L0 = 7 ∨ L0 = 8 := by omega
    rcases hc0 with rfl | rfl | rfl | rfl | rfl | rfl | rfl | rfl | rfl
    · skip
      obtain rfl : ls1 = [] := by simpa [lensAll] using hl1
      exact ⟨wN1, wG1, w1_5_0ms, w1_5_0mo, w1_5_0⟩
    · skip
      obtain rfl : ls1 = [] := by simpa [lensAll] using hl1
      exact ⟨wN1, wG1, w1_5_1ms, w1_5_1mo, w1_5_1⟩
    · skip
      obtain rfl : ls1 = [] := by simpa [lensAll] using hl1
      exact ⟨wN1, wG1, w1_5_2ms, w1_5_2mo, w1_5_2⟩
    · skip
      obtain rfl : ls1 = [] := by simpa [lensAll] using hl1
      exact ⟨wN1, wG1, w1_5_3ms, w1_5_3mo, w1_5_3⟩
    · skip
      obtain rfl : ls1 = [] := by simpa [lensAll] using hl1
      exact ⟨wN1, wG1, w1_5_4ms, w1_5_4mo, w1_5_4⟩
    · skip
      obtain rfl : ls1 = [] := by simpa [lensAll] using hl1
      exact ⟨wN1, wG1, w1_5_5ms, w1_5_5mo, w1_5_5⟩
    · skip
      obtain rfl : ls1 = [] := by simpa [lensAll] using hl1
      exact ⟨wN1, wG1, w1_5_6ms, w1_5_6mo, w1_5_6⟩
    · skip
      obtain rfl : ls1 = [] := by simpa [lensAll] using hl1
      exact ⟨wN1, wG1, w1_5_7ms, w1_5_7mo, w1_5_7⟩
    · skip
      obtain rfl : ls1 = [] := by simpa [lensAll] using hl1
      exact ⟨wN1, wG1, w1_5_8ms, w1_5_8mo, w1_5_8⟩
  · skip
    simp only [lensAll, List.mem_flatMap, List.mem_map, List.mem_range] at hls
    obtain ⟨L0, hL0, ls1, hl1, rfl⟩ := hls
    have hc0 : L0 = 0 ∨ L0 = 1 ∨ L0 = 2 ∨ L0 = 3 ∨ L0 = 4 ∨ L0 = 5 ∨ L0 = 6 ∨ L0 = 7 ∨ L0 = 8 := by omega
    rcases hc0 with rfl | rfl | rfl | rfl | rfl | rfl | rfl | rfl | rfl
    · skip
      obtain rfl : ls1 = [] := by simpa [lensAll] using hl1
      exact ⟨wN1, wG1, w1_6_0ms, w1_6_0mo, w1_6_0⟩
    · skip
      obtain rfl : ls1 = [] := by simpa [lensAll] using hl1
      exact ⟨wN1, wG1, w1_6_1ms, w1_6_1mo, w1_6_1⟩
    · skip
      obtain rfl : ls1 = [] := by simpa [lensAll] using hl1
      exact ⟨wN1, wG1, w1_6_2ms, w1_6_2mo, w1_6_2⟩
    · skip
      obtain rfl : ls1 = [] := by simpa [lensAll] using hl1
      exact ⟨wN1, wG1, w1_6_3ms, w1_6_3mo, w1_6_3⟩
    · skip
      obtain rfl : ls1 = [] := by simpa [lensAll] using hl1
      exact ⟨wN1, wG1, w1_6_4ms, w1_6_4mo, w1_6_4⟩
    · skip
      obtain rfl : ls1 = [] := by simpa [lensAll] using hl1
      exact ⟨wN1, wG1, w1_6_5ms, w1_6_5mo, w1_6_5⟩
    · skip
      obtain rfl : ls1 = [] := by simpa [lensAll] using hl1
      exact ⟨wN1, wG1, w1_6_6ms, w1_6_6mo, w1_6_6⟩
    · skip
      obtain rfl : ls1 = [] := by simpa [lensAll] using hl1
      exact ⟨wN1, wG1, w1_6_7ms, w1_6_7mo, w1_6_7⟩
    · skip
      obtain rfl : ls1 = [] := by simpa [lensAll] using hl1
      exact ⟨wN1, wG1, w1_6_8ms, w1_6_8mo, w1_6_8⟩
  · skip
    simp only [lensAll, List.mem_flatMap, List.mem_map, List.mem_range] at hls
    obtain ⟨L0, hL0, ls1, hl1, rfl⟩ := hls
    have hc0 : L0 = 0 ∨ L0 = 1 ∨ L0 = 2 ∨ L0 = 3 ∨ L0 = 4 ∨ L0 = 5 ∨ L0 = 6 ∨ L0 = 7 ∨ L0 = 8 := by omega
    rcases hc0 with rfl | rfl | rfl | rfl | rfl | rfl | rfl | rfl | rfl
    · skip
      obtain rfl : ls1 = [] := by simpa [lensAll] using hl1
      exact ⟨wN1, wG1, w1_7_0ms, w1_7_0mo, w1_7_0⟩
    · skip
      obtain rfl : ls1 = [] := by simpa [lensAll] using hl1
      exact ⟨wN1, wG1, w1_7_1ms, w1_7_1mo, w1_7_1⟩
    · skip
      obtain rfl : ls1 = [] := by simpa [lensAll] using hl1
      exact ⟨wN1, wG1, w1_7_2ms, w1_7_2mo, w1_7_2⟩
    · skip
      obtain rfl : ls1 = [] := by simpa [lensAll] using hl1
      exact ⟨wN1, wG1, w1_7_3ms, w1_7_3mo, w1_7_3⟩
    · skip
      obtain rfl : ls1 = [] := by simpa [lensAll] using hl1
      exact ⟨wN1, wG1, w1_7_4ms, w1_7_4mo, w1_7_4⟩
    · skip
      obtain rfl : ls1 = [] := by simpa [lensAll] using hl1
      exact ⟨wN1, wG1, w1_7_5ms, w1_7_5mo, w1_7_5⟩
    · skip
      obtain rfl : ls1 = [] := by simpa [lensAll] using hl1
      exact ⟨wN1, wG1, w1_7_6ms, w1_7_6mo, w1_7_6⟩
    · skip
      obtain rfl : ls1 = [] := by simpa [lensAll] using hl1
      exact ⟨wN1, wG1, w1_7_7ms, w1_7_7mo, w1_7_7⟩
    · skip
      obtain rfl : ls1 = [] := by simpa [lensAll] using hl1
      exact ⟨wN1, wG1, w1_7_8ms, w1_7_8mo, w1_7_8⟩
  · skip
    simp only [lensAll, List.mem_flatMap, List.mem_map, List.mem_range] at hls
    obtain ⟨L0, hL0, ls1, hl1, rfl⟩ := hls
    have hc0 : L0 = 0 ∨ L0 = 1 ∨ L0 = 2 ∨ L0 = 3 ∨ L0 = 4 ∨ L0 = 5 ∨ L0 = 6 ∨ L0 = 7 ∨ L0 = 8 := by omega
    rcases hc0 with rfl | rfl | rfl | rfl | rfl | rfl | rfl | rfl | rfl
    · skip
      obtain rfl : ls1 = [] := by simpa [lensAll] using hl1
      exact ⟨wN1, wG1, w1_8_0ms, w1_8_0mo, w1_8_0⟩
    · skip
      obtain rfl : ls1 = [] := by simpa [lensAll] using hl1
      exact ⟨wN1, wG1, w1_8_1ms, w1_8_1mo, w1_8_1⟩
    · skip
      obtain rfl : ls1 = [] := by simpa [lensAll] using hl1
      exact ⟨wN1, wG1, w1_8_2ms, w1_8_2mo, w1_8_2⟩
    · skip
      obtain rfl : ls1 = [] := by simpa [lensAll] using hl1
      exact ⟨wN1, wG1, w1_8_3ms, w1_8_3mo, w1_8_3⟩
    · skip
      obtain rfl : ls1 = [] := by simpa [lensAll] using hl1
      exact ⟨wN1, wG1, w1_8_4ms, w1_8_4mo, w1_8_4⟩
    · skip
      obtain rfl : ls1 = [] := by simpa [lensAll] using hl1
      exact ⟨wN1, wG1, w1_8_5ms, w1_8_5mo, w1_8_5⟩
    · skip
      obtain rfl : ls1 = [] := by simpa [lensAll] using hl1
      exact ⟨wN1, wG1, w1_8_6ms, w1_8_6mo, w1_8_6⟩
    · skip
      obtain rfl : ls1 = [] := by simpa [lensAll] using hl1
      exact ⟨wN1, wG1, w1_8_7ms, w1_8_7mo, w1_8_7⟩
    · skip
      obtain rfl : ls1 = [] := by simpa [lensAll] using hl1
      exact ⟨wN1, wG1, w1_8_8ms, w1_8_8mo, w1_8_8⟩
  · skip
    simp only [lensAll, List.mem_flatMap, List.mem_map, List.mem_range] at hls
    obtain ⟨L0, hL0, ls1, hl1, rfl⟩ := hls
    have hc0 : L0 = 0 ∨ L0 = 1 ∨ L0 = 2 ∨ L0 = 3 ∨ L0 = 4 ∨ L0 = 5 ∨ L0 = 6 ∨ L0 = 7 ∨ L0 = 8 := by omega
    rcases hc0 with rfl | rfl | rfl | rfl | rfl | rfl | rfl | rfl | rfl
    · skip
      obtain rfl : ls1 = [] := by simpa [lensAll] using hl1
      exact ⟨wN2, wG2, w2_0_0ms, w2_0_0mo, w2_0_0⟩
    · skip
      obtain rfl : ls1 = [] := by simpa [lensAll] using hl1
      exact ⟨wN2, wG2, w2_0_1ms, w2_0_1mo, w2_0_1⟩
    · skip
      obtain rfl : ls1 = [] := by simpa [lensAll] using hl1
      exact ⟨wN2, wG2, w2_0_2ms, w2_0_2mo, w2_0_2⟩
    · skip
      obtain rfl : ls1 = [] := by simpa [lensAll] using hl1
      exact ⟨wN2, wG2, w2_0_3ms, w2_0_3mo, w2_0_3⟩
    · skip
      obtain rfl : ls1 = [] := by simpa [lensAll] using hl1
      exact ⟨wN2, wG2, w2_0_4ms, w2_0_4mo, w2_0_4⟩
    · skip
      obtain rfl : ls1 = [] := by simpa [lensAll] using hl1
      exact ⟨wN2, wG2, w2_0_5ms, w2_0_5mo, w2_0_5⟩
    · skip
      obtain rfl : ls1 = [] := by simpa [lensAll] using hl1
      exact ⟨wN2, wG2, w2_0_6ms, w2_0_6mo, w2_0_6⟩
    · skip
      obtain rfl : ls1 = [] := by simpa [lensAll] using hl1
      exact ⟨wN2, wG2, w2_0_7ms, w2_0_7mo, w2_0_7⟩
    · skip
      obtain rfl : ls1 = [] := by simpa [lensAll] using hl1
      exact ⟨wN2, wG2, w2_0_8ms, w2_0_8mo, w2_0_8⟩
  · skip
    simp only [lensAll, List.mem_flatMap, List.mem_map, List.mem_range] at hls
    obtain ⟨L0, hL0, ls1, hl1, rfl⟩ := hls
    have hc0 : L0 = 0 ∨ L0 = 1 ∨ L0 = 2 ∨ L0 = 3 ∨ L0 = 4 ∨ L0 = 5 ∨ L0 = 6 ∨ L0 = 7 ∨ L0 = 8 := by omega
    rcases hc0 with rfl | rfl | rfl | rfl | rfl | rfl | rfl | rfl | rfl
    · skip
      obtain rfl : ls1 = [] := by simpa [lensAll] using hl1
      exact ⟨wN2, wG2, w2_1_0ms, w2_1_0mo, w2_1_0⟩
    · skip
      obtain rfl : ls1 = [] := by simpa [lensAll] using hl1
      exact ⟨wN2, wG2, w2_1_1ms, w2_1_1mo, w2_1_1⟩
    · skip
      obtain rfl : ls1 = [] := by simpa [lensAll] using hl1
      exact ⟨wN2, wG2, w2_1_2ms, w2_1_2mo, w2_1_2⟩
    · skip
      obtain rfl : ls1 = [] := by simpa [lensAll] using hl1
      exact ⟨wN2, wG2, w2_1_3ms, w2_1_3mo, w2_1_3⟩
    · skip
      obtain rfl : ls1 = [] := by simpa [lensAll] using hl1
      exact ⟨wN2, wG2, w2_1_4ms, w2_1_4mo, w2_1_4⟩
    · skip
      obtain rfl : ls1 = [] := by simpa [lensAll] using hl1
      exact ⟨wN2, wG2, w2_1_5ms, w2_1_5mo, w2_1_5⟩
    · skip
      obtain rfl : ls1 = [] := by simpa [lensAll] using hl1
      exact ⟨wN2, wG2, w2_1_6ms, w2_1_6mo, w2_1_6⟩
    · skip
      obtain rfl : ls1 = [] := by simpa [lensAll] using hl1
      exact ⟨wN2, wG2, w2_1_7ms, w2_1_7mo, w2_1_7⟩
    · skip
      obtain rfl : ls1 = [] := by simpa [lensAll] using hl1
      exact ⟨wN2, wG2, w2_1_8ms, w2_1_8mo, w2_1_8⟩
  · skip
    simp only [lensAll, List.mem_flatMap, List.mem_map, List.mem_range] at hls
    obtain ⟨L0, hL0, ls1, hl1, rfl⟩ := hls
    have hc0 : L0 = 0 ∨ L0 = 1 ∨ L0 = 2 ∨ L0 = 3 ∨ L0 = 4 ∨ L0 = 5 ∨ L0 = 6 ∨ L0 = 7 ∨ L0 = 8 := by omega
    rcases hc0 with rfl | rfl | rfl | rfl | rfl | rfl | rfl | rfl | rfl
    · skip
      obtain rfl : ls1 = [] := by simpa [lensAll] using hl1
      exact ⟨wN2, wG2, w2_2_0ms, w2_2_0mo, w2_2_0⟩
    · skip
      obtain rfl : ls1 = [] := by simpa [lensAll] using hl1
      exact ⟨wN2, wG2, w2_2_1ms, w2_2_1mo, w2_2_1⟩
    · skip
      obtain rfl : ls1 = [] := by simpa [lensAll] using hl1
      exact ⟨wN2, wG2, w2_2_2ms, w2_2_2mo, w2_2_2⟩
    · skip
      obtain rfl : ls1 = [] := by simpa [lensAll] using hl1
      exact ⟨wN2, wG2, w2_2_3ms, w2_2_3mo, w2_2_3⟩
    · skip
      obtain rfl : ls1 = [] := by simpa [lensAll] using hl1
      exact ⟨wN2, wG2, w2_2_4ms, w2_2_4mo, w2_2_4⟩
    · skip
      obtain rfl : ls1 = [] := by simpa [lensAll] using hl1
      exact ⟨wN2, wG2, w2_2_5ms, w2_2_5mo, w2_2_5⟩
    · skip
      obtain rfl : ls1 = [] := by simpa [lensAll] using hl1
      exact ⟨wN2, wG2, w2_2_6ms, w2_2_6mo, w2_2_6⟩
    · skip
      obtain rfl : ls1 = [] := by simpa [lensAll] using hl1
      exact ⟨wN2, wG2, w2_2_7ms, w2_2_7mo, w2_2_7⟩
    · skip
      obtain rfl : ls1 = [] := by simpa [lensAll] using hl1
      exact ⟨wN2, wG2, w2_2_8ms, w2_2_8mo, w2_2_8⟩
  · skip
    simp only [lensAll, List.mem_flatMap, List.mem_map, List.mem_range] at hls
    obtain ⟨L0, hL0, ls1, hl1, rfl⟩ := hls
    have hc0 : L0 = 0 ∨ L0 = 1 ∨ L0 = 2 ∨ L0 = 3 ∨ L0 = 4 ∨ L0 = 5 ∨ L0 = 6 ∨ L0 = 7 ∨ L0 = 8 := by omega
    rcases hc0 with rfl | rfl | rfl | rfl | rfl | rfl | rfl | rfl | rfl
    · skip
      obtain rfl : ls1 = [] := by simpa [lensAll] using hl1
      exact ⟨wN2, wG2, w2_3_0ms, w2_3_0mo, w2_3_0⟩
    · skip
      obtain rfl : ls1 = [] := by simpa [lensAll] using hl1
      exact ⟨wN2, wG2, w2_3_1ms, w2_3_1mo, w2_3_1⟩
    · skip
      obtain rfl : ls1 = [] := by simpa [lensAll] using hl1
      exact ⟨wN2, wG2, w2_3_2ms, w2_3_2mo, w2_3_2⟩
    · skip
      obtain rfl : ls1 = [] := by simpa [lensAll] using hl1
      exact ⟨wN2, wG2, w2_3_3ms, w2_3_3mo, w2_3_3⟩
    · skip
      obtain rfl : ls1 = [] := by simpa [lensAll] using hl1
      exact ⟨wN2, wG2, w2_3_4ms, w2_3_4mo, w2_3_4⟩
    · skip
      obtain rfl : ls1 = [] := by simpa [lensAll] using hl1
      exact ⟨wN2, wG2, w2_3_5ms, w2_3_5mo, w2_3_5⟩
    · skip
      obtain rfl : ls1 = [] := by simpa [lensAll] using hl1
      exact ⟨wN2, wG2, w2_3_6ms, w2_3_6mo, w2_3_6⟩
    · skip
      obtain rfl : ls1 = [] := by simpa [lensAll] using hl1
      exact ⟨wN2, wG2, w2_3_7ms, w2_3_7mo, w2_3_7⟩
    · skip
      obtain rfl : ls1 = [] := by simpa [lensAll] using hl1
      exact ⟨wN2, wG2, w2_3_8ms, w2_3_8mo, w2_3_8⟩
  · skip
    simp only [lensAll, List.mem_flatMap, List.mem_map, List.mem_range] at hls
    obtain ⟨L0, hL0, ls1, hl1, rfl⟩ := hls
    have hc0 : L0 = 0 ∨ L0 = 1 ∨ L0 = 2 ∨ L0 = 3 ∨ L0 = 4 ∨ L0 = 5 ∨ L0 = 6 ∨ L0 = 7 ∨ L0 = 8 := by omega
    rcases hc0 with rfl | rfl | rfl | rfl | rfl | rfl | rfl | rfl | rfl
    · skip
      obtain rfl : ls1 = [] := by simpa [lensAll] using hl1
      exact ⟨wN2, wG2, w2_4_0ms, w2_4_0mo, w2_4_0⟩
    · skip
      obtain rfl : ls1 = [] := by simpa [lensAll] using hl1
      exact ⟨wN2, wG2, w2_4_1ms, w2_4_1mo, w2_4_1⟩
    · skip
      obtain rfl : ls1 = [] := by simpa [lensAll] using hl1
      exact ⟨wN2, wG2, w2_4_2ms, w2_4_2mo, w2_4_2⟩
    · skip
      obtain rfl : ls1 = [] := by simpa [lensAll] using hl1
      exact ⟨wN2, wG2, w2_4_3ms, w2_4_3mo, w2_4_3⟩
    · skip
      obtain rfl : ls1 = [] := by simpa [lensAll] using hl1
      exact ⟨wN2, wG2, w2_4_4ms, w2_4_4mo, w2_4_4⟩
    · skip
      obtain rfl : ls1 = [] := by simpa [lensAll] using hl1
      exact ⟨wN2, wG2, w2_4_5ms, w2_4_5mo, w2_4_5⟩
    · skip
      obtain rfl : ls1 = [] := by simpa [lensAll] using hl1
      exact ⟨wN2, wG2, w2_4_6ms, w2_4_6mo, w2_4_6⟩
    · skip
      obtain rfl : ls1 = [] := by simpa [lensAll] using hl1
      exact ⟨wN2, wG2, w2_4_7ms, w2_4_7mo, w2_4_7⟩
    · skip
      obtain rfl : ls1 = [] := by simpa [lensAll] using hl1
      exact ⟨wN2, wG2, w2_4_8ms, w2_4_8mo, w2_4_8⟩
  · skip
    simp only [lensAll, List.mem_flatMap, List.mem_map, List.mem_range] at hls
    obtain ⟨L0, hL0, ls1, hl1, rfl⟩ := hls
    have hc0 : L0 = 0 ∨ L0 = 1 ∨ L0 = 2 ∨ L0 = 3 ∨ L0 = 4 ∨ L0 = 5 ∨ L0 = 6 ∨ L0 = 7 ∨ L0 = 8 := by omega
    rcases hc0 with rfl | rfl | rfl | rfl | rfl | rfl | rfl | rfl | rfl
    · skip
      obtain rfl : ls1 = [] := by simpa [lensAll] using hl1
      exact ⟨wN2, wG2, w2_5_0ms, w2_5_0mo, w2_5_0⟩
    · skip
      obtain rfl : ls1 = [] := by simpa [lensAll] using hl1
      exact ⟨wN2, wG2, w2_5_1ms, w2_5_1mo, w2_5_1⟩
    · skip
      obtain rfl : ls1 = [] := by simpa [lensAll] using hl1
      exact ⟨wN2, wG2, w2_5_2ms, w2_5_2mo, w2_5_2⟩
    · skip
      obtain rfl : ls1 = [] := by simpa [lensAll] using hl1
      exact ⟨wN2, wG2, w2_5_3ms, w2_5_3mo, w2_5_3⟩
    · skip
      obtain rfl : ls1 = [] := by simpa [lensAll] using hl1
      exact ⟨wN2, wG2, w2_5_4ms, w2_5_4mo, w2_5_4⟩
    · skip
      obtain rfl : ls1 = [] := by simpa [lensAll] using hl1
      exact ⟨wN2, wG2, w2_5_5ms, w2_5_5mo, w2_5_5⟩
    · skip
      obtain rfl : ls1 = [] := by simpa [lensAll] using hl1
      exact ⟨wN2, wG2, w2_5_6ms, w2_5_6mo, w2_5_6⟩
    · skip
      obtain rfl : ls1 = [] := by simpa [lensAll] using hl1
      exact ⟨wN2, wG2, w2_5_7ms, w2_5_7mo, w2_5_7⟩
    · skip
      obtain rfl : ls1 = [] := by simpa [lensAll] using hl1
      exact ⟨wN2, wG2, w2_5_8ms, w2_5_8mo, w2_5_8⟩
  · skip
    simp only [lensAll, List.mem_flatMap, List.mem_map, List.mem_range] at hls
    obtain ⟨L0, hL0, ls1, hl1, rfl⟩ := hls
    have hc0 : L0 = 0 ∨ L0 = 1 ∨ L0 = 2 ∨ L0 = 3 ∨ L0 = 4 ∨ L0 = 5 ∨ L0 = 6 ∨ L0 = 7 ∨ L0 = 8 := by omega
    rcases hc0 with rfl | rfl | rfl | rfl | rfl | rfl | rfl | rfl | rfl
    · skip
      obtain rfl : ls1 = [] := by simpa [lensAll] using hl1
      exact ⟨wN2, wG2, w2_6_0ms, w2_6_0mo, w2_6_0⟩
    · skip
      obtain rfl : ls1 = [] := by simpa [lensAll] using hl1
      exact ⟨wN2, wG2, w2_6_1ms, w2_6_1mo, w2_6_1⟩
    · skip
      obtain rfl : ls1 = [] := by simpa [lensAll] using hl1
      exact ⟨wN2, wG2, w2_6_2ms, w2_6_2mo, w2_6_2⟩
    · skip
      obtain rfl : ls1 = [] := by simpa [lensAll] using hl1
      exact ⟨wN2, wG2, w2_6_3ms, w2_6_3mo, w2_6_3⟩
    · skip
      obtain rfl : ls1 = [] := by simpa [lensAll] using hl1
      exact ⟨wN2, wG2, w2_6_4ms, w2_6_4mo, w2_6_4⟩
    · skip
      obtain rfl : ls1 = [] := by simpa [lensAll] using hl1
      exact ⟨wN2, wG2, w2_6_5ms, w2_6_5mo, w2_6_5⟩
    · skip
      obtain rfl : ls1 = [] := by simpa [lensAll] using hl1
      exact ⟨wN2, wG2, w2_6_6ms, w2_6_6mo, w2_6_6⟩
    · skip
      obtain rfl : ls1 = [] := by simpa [lensAll] using hl1
      exact ⟨wN2, wG2, w2_6_7ms, w2_6_7mo, w2_6_7⟩
    · skip
      obtain rfl : ls1 = [] := by simpa [lensAll] using hl1
      exact ⟨wN2, wG2, w2_6_8ms, w2_6_8mo, w2_6_8⟩
  · skip
    simp only [lensAll, List.mem_flatMap, List.mem_map, List.mem_range] at hls
    obtain ⟨L0, hL0, ls1, hl1, rfl⟩ := hls
    have hc0 : L0 = 0 ∨ L0 = 1 ∨ L0 = 2 ∨ L0 = 3 ∨ L0 = 4 ∨ L0 = 5 ∨ L0 = 6 ∨ L0 = 7 ∨ L0 = 8 := by omega
    rcases hc0 with rfl | rfl | rfl | rfl | rfl | rfl | rfl | rfl | rfl
    · skip
      obtain rfl : ls1 = [] := by simpa [lensAll] using hl1
      exact ⟨wN2, wG2, w2_7_0ms, w2_7_0mo, w2_7_0⟩
    · skip
      obtain rfl : ls1 = [] := by simpa [lensAll] using hl1
      exact ⟨wN2, wG2, w2_7_1ms, w2_7_1mo, w2_7_1⟩
    · skip
      obtain rfl : ls1 = [] := by simpa [lensAll] using hl1
      exact ⟨wN2, wG2, w2_7_2ms, w2_7_2mo, w2_7_2⟩
    · skip
      obtain rfl : ls1 = [] := by simpa [lensAll] using hl1
      exact ⟨wN2, wG2, w2_7_3ms, w2_7_3mo, w2_7_3⟩
    · skip
      obtain rfl : ls1 = [] := by simpa [lensAll] using hl1
      exact ⟨wN2, wG2, w2_7_4ms, w2_7_4mo, w2_7_4⟩
    · skip
      obtain rfl : ls1 = [] := by simpa [lensAll] using hl1
      exact ⟨wN2, wG2, w2_7_5ms, w2_7_5mo, w2_7_5⟩
    · skip
      obtain rfl : ls1 = [] := by simpa [lensAll] using hl1
      exact ⟨wN2, wG2, w2_7_6ms, w2_7_6mo, w2_7_6⟩
    · skip
      obtain rfl : ls1 = [] := by simpa [lensAll] using hl1
      exact ⟨wN2, wG2, w2_7_7ms, w2_7_7mo, w2_7_7⟩
    · skip
      obtain rfl : ls1 = [] := by simpa [lensAll] using hl1
      exact ⟨wN2, wG2, w2_7_8ms, w2_7_8mo, w2_7_8⟩
  · skip
    simp only [lensAll, List.mem_flatMap, List.mem_map, List.mem_range] at hls
    obtain ⟨L0, hL0, ls1, hl1, rfl⟩ := hls
    have hc0 : L0 = 0 ∨ L0 = 1 ∨ L0 = 2 ∨ L0 = 3 ∨ L0 = 4 ∨ L0 = 5 ∨ L0 = 6 ∨ L0 = 7 ∨ L0 = 8 := by omega
    rcases hc0 with rfl | rfl | rfl | rfl | rfl | rfl | rfl | rfl | rfl
    · skip
      obtain rfl : ls1 = [] := by simpa [lensAll] using hl1
      exact ⟨wN2, wG2, w2_8_0ms, w2_8_0mo, w2_8_0⟩
    · skip
      obtain rfl : ls1 = [] := by simpa [lensAll] using hl1
      exact ⟨wN2, wG2, w2_8_1ms, w2_8_1mo, w2_8_1⟩
    · skip
      obtain rfl : ls1 = [] := by simpa [lensAll] using hl1
      exact ⟨wN2, wG2, w2_8_2ms, w2_8_2mo, w2_8_2⟩
    · skip
      obtain rfl : ls1 = [] := by simpa [lensAll] using hl1
      exact ⟨wN2, wG2, w2_8_3ms, w2_8_3mo, w2_8_3⟩
    · skip
      obtain rfl : ls1 = [] := by simpa [lensAll] using hl1
      exact ⟨wN2, wG2, w2_8_4ms, w2_8_4mo, w2_8_4⟩
    · skip
      obtain rfl : ls1 = [] := by simpa [lensAll] using hl1
      exact ⟨wN2, wG2, w2_8_5ms, w2_8_5mo, w2_8_5⟩
    · skip
      obtain rfl : ls1 = [] := by simpa [lensAll] using hl1
      exact ⟨wN2, wG2, w2_8_6ms, w2_8_6mo, w2_8_6⟩
    · skip
      obtain rfl : ls1 = [] := by simpa [lensAll] using hl1
      exact ⟨wN2, wG2, w2_8_7ms, w2_8_7mo, w2_8_7⟩
    · skip
      obtain rfl : ls1 = [] := by simpa [lensAll] using hl1
      exact ⟨wN2, wG2, w2_8_8ms, w2_8_8mo, w2_8_8⟩
theorem tapeMore_any (a0 : Int) (v1 : Value) (zs1 : List Int) (a2 : Bool) (v3 : Value) (zs3 : List Int) (a4 : Int) (w : World) (_h0 : -9223372036854775808 ≤ a0 ∧ a0 ≤ 9223372036854775807) (h1 : Ints w v1 zs1)  (h3 : Ints w v3 zs3) (_h4 : -9223372036854775808 ≤ a4 ∧ a4 ≤ 9223372036854775807) :
    Calls Try.prog 9 #[.int .i64 a0, v1, .bool a2, v3, .int .i64 a4] w fun e w' => e = .returned (.bool true) ∧ Below w.heap.size w w' := by
  refine law_ofM (ds := [.i a0, .is zs1, .b a2, .is zs3, .i a4]) (nx0 := 10) (k := 200) (base := 100) (l := [(0, 3), (4, 9)]) (lens := [(1, 8)]) (by simp) (by simp) (by decide) (vs := #[.int .i64 a0, v1, .bool a2, v3, .int .i64 a4]) ⟨rfl, h1, rfl, h3, rfl, trivial⟩ fun ks hk => ?_
  have hk : ks = [.i, .q, .b, .q, .i] := by simpa [AD.kind, shapes, shapes1] using hk
  subst hk
  exact tapeMore_all
end Go.Proofs.Yticbgaflhiokgaa
