/-
  'NordAll': whatever it is given.
-/
import Derived.Test.YtkncchofgehnpaaNordAll0
import Derived.Test.YtkncchofgehnpaaNordAll1
import Derived.Test.YtkncchofgehnpaaNordAll2
import Derived.Test.YtkncchofgehnpaaNordAll3
import Derived.Test.YtkncchofgehnpaaNordAll4
import Derived.Test.YtkncchofgehnpaaNordAll5
import Derived.Test.YtkncchofgehnpaaNordAll6
import Derived.Test.YtkncchofgehnpaaNordAll7
import Derived.Test.YtkncchofgehnpaaNordAll8
import Derived.Test.YtkncchofgehnpaaNordAll9
import Derived.Test.YtkncchofgehnpaaNordAll10
import Derived.Test.YtkncchofgehnpaaNordAll11
import Derived.Test.YtkncchofgehnpaaNordAll12
import Derived.Test.YtkncchofgehnpaaNordAll13
import Derived.Test.YtkncchofgehnpaaNordAll14
namespace Go.Proofs.Ytkncchofgehnpaa
open Go.RowKit Ex
theorem nordAll_lens : ∀ ls, ls ∈ lensAll [(2, 8)] → ls = (lenL 2 8 8 ++ []) ∨ ls = (lenL 2 7 8 ++ []) ∨ ls = (lenL 2 6 8 ++ []) ∨ ls = (lenL 2 5 8 ++ []) ∨ ls = (lenL 2 4 8 ++ []) ∨ ls = (lenL 2 3 8 ++ []) ∨ ls = (lenL 2 2 8 ++ []) ∨ ls = (lenL 2 1 8 ++ []) ∨ ls = (lenL 2 0 8 ++ []) := by
  intro ls hls
  simp only [lensAll, List.mem_flatMap, List.mem_map, List.mem_range] at hls
  obtain ⟨L0, hL0, ls1, hl1, rfl⟩ := hls
  have hc0 : L0 = 0 ∨ L0 = 1 ∨ L0 = 2 ∨ L0 = 3 ∨ L0 = 4 ∨ L0 = 5 ∨ L0 = 6 ∨ L0 = 7 ∨ L0 = 8 := by omega
  rcases hc0 with rfl | rfl | rfl | rfl | rfl | rfl | rfl | rfl | rfl
  · skip
    obtain rfl : ls1 = [] := by simpa [lensAll] using hl1
    exact (.inr (.inr (.inr (.inr (.inr (.inr (.inr (.inr rfl))))))))
  · skip
    obtain rfl : ls1 = [] := by simpa [lensAll] using hl1
    exact (.inr (.inr (.inr (.inr (.inr (.inr (.inr (.inl rfl))))))))
  · skip
    obtain rfl : ls1 = [] := by simpa [lensAll] using hl1
    exact (.inr (.inr (.inr (.inr (.inr (.inr (.inl rfl)))))))
  · skip
    obtain rfl : ls1 = [] := by simpa [lensAll] using hl1
    exact (.inr (.inr (.inr (.inr (.inr (.inl rfl))))))
  · skip
    obtain rfl : ls1 = [] := by simpa [lensAll] using hl1
    exact (.inr (.inr (.inr (.inr (.inl rfl)))))
  · skip
    obtain rfl : ls1 = [] := by simpa [lensAll] using hl1
    exact (.inr (.inr (.inr (.inl rfl))))
  · skip
    obtain rfl : ls1 = [] := by simpa [lensAll] using hl1
    exact (.inr (.inr (.inl rfl)))
  · skip
    obtain rfl : ls1 = [] := by simpa [lensAll] using hl1
    exact (.inr (.inl rfl))
  · skip
    obtain rfl : ls1 = [] := by simpa [lensAll] using hl1
    exact (.inl rfl)
theorem nordAll_all : ∀ tb, tb ∈ tabs [(0, 5), (1, 3)] → ∀ ls, ls ∈ lensAll [(2, 8)] → ∃ t, tabGood 100 t = true ∧ ∃ ms, AllMem (memRun [] ls t) ms ∧ lawRunM 3 10 200 [.i, .i, .q, .i, .f, .q, .i, .b] tb ls t ms = true := by
  intro tb ht ls hls
  simp only [tabs, List.range, List.range.loop, List.flatMap_cons, List.flatMap_nil, List.map_cons, List.map_nil, List.append_nil, List.cons_append, List.nil_append, List.mem_cons, List.not_mem_nil, or_false] at ht
  rcases ht with rfl | rfl | rfl | rfl | rfl | rfl | rfl | rfl | rfl | rfl | rfl | rfl | rfl | rfl | rfl
  · skip
    rcases nordAll_lens ls hls with rfl | rfl | rfl | rfl | rfl | rfl | rfl | rfl | rfl
    · exact ⟨nN0, nG0, n0_0_8ms, n0_0_8mo, n0_0_8⟩
    · exact ⟨nN0, nG0, n0_0_7ms, n0_0_7mo, n0_0_7⟩
    · exact ⟨nN0, nG0, n0_0_6ms, n0_0_6mo, n0_0_6⟩
    · exact ⟨nN0, nG0, n0_0_5ms, n0_0_5mo, n0_0_5⟩
    · exact ⟨nN0, nG0, n0_0_4ms, n0_0_4mo, n0_0_4⟩
    · exact ⟨nN0, nG0, n0_0_3ms, n0_0_3mo, n0_0_3⟩
    · exact ⟨nN0, nG0, n0_0_2ms, n0_0_2mo, n0_0_2⟩
    · exact ⟨nN0, nG0, n0_0_1ms, n0_0_1mo, n0_0_1⟩
    · exact ⟨nN0, nG0, n0_0_0ms, n0_0_0mo, n0_0_0⟩
  · skip
    rcases nordAll_lens ls hls with rfl | rfl | rfl | rfl | rfl | rfl | rfl | rfl | rfl
    · exact ⟨nN0, nG0, n0_1_8ms, n0_1_8mo, n0_1_8⟩
    · exact ⟨nN0, nG0, n0_1_7ms, n0_1_7mo, n0_1_7⟩
    · exact ⟨nN0, nG0, n0_1_6ms, n0_1_6mo, n0_1_6⟩
    · exact ⟨nN0, nG0, n0_1_5ms, n0_1_5mo, n0_1_5⟩
    · exact ⟨nN0, nG0, n0_1_4ms, n0_1_4mo, n0_1_4⟩
    · exact ⟨nN0, nG0, n0_1_3ms, n0_1_3mo, n0_1_3⟩
    · exact ⟨nN0, nG0, n0_1_2ms, n0_1_2mo, n0_1_2⟩
    · exact ⟨nN0, nG0, n0_1_1ms, n0_1_1mo, n0_1_1⟩
    · exact ⟨nN0, nG0, n0_1_0ms, n0_1_0mo, n0_1_0⟩
  · skip
    rcases nordAll_lens ls hls with rfl | rfl | rfl | rfl | rfl | rfl | rfl | rfl | rfl
    · exact ⟨nN0, nG0, n0_2_8ms, n0_2_8mo, n0_2_8⟩
    · exact ⟨nN0, nG0, n0_2_7ms, n0_2_7mo, n0_2_7⟩
    · exact ⟨nN0, nG0, n0_2_6ms, n0_2_6mo, n0_2_6⟩
    · exact ⟨nN0, nG0, n0_2_5ms, n0_2_5mo, n0_2_5⟩
    · exact ⟨nN0, nG0, n0_2_4ms, n0_2_4mo, n0_2_4⟩
    · exact ⟨nN0, nG0, n0_2_3ms, n0_2_3mo, n0_2_3⟩
    · exact ⟨nN0, nG0, n0_2_2ms, n0_2_2mo, n0_2_2⟩
    · exact ⟨nN0, nG0, n0_2_1ms, n0_2_1mo, n0_2_1⟩
    · exact ⟨nN0, nG0, n0_2_0ms, n0_2_0mo, n0_2_0⟩
  · skip
    rcases nordAll_lens ls hls with rfl | rfl | rfl | rfl | rfl | rfl | rfl | rfl | rfl
    · exact ⟨nN1, nG1, n1_0_8ms, n1_0_8mo, n1_0_8⟩
    · exact ⟨nN1, nG1, n1_0_7ms, n1_0_7mo, n1_0_7⟩
    · exact ⟨nN1, nG1, n1_0_6ms, n1_0_6mo, n1_0_6⟩
    · exact ⟨nN1, nG1, n1_0_5ms, n1_0_5mo, n1_0_5⟩
    · exact ⟨nN1, nG1, n1_0_4ms, n1_0_4mo, n1_0_4⟩
    · exact ⟨nN1, nG1, n1_0_3ms, n1_0_3mo, n1_0_3⟩
    · exact ⟨nN1, nG1, n1_0_2ms, n1_0_2mo, n1_0_2⟩
    · exact ⟨nN1, nG1, n1_0_1ms, n1_0_1mo, n1_0_1⟩
    · exact ⟨nN1, nG1, n1_0_0ms, n1_0_0mo, n1_0_0⟩
  · skip
    rcases nordAll_lens ls hls with rfl | rfl | rfl | rfl | rfl | rfl | rfl | rfl | rfl
    · exact ⟨nN1, nG1, n1_1_8ms, n1_1_8mo, n1_1_8⟩
    · exact ⟨nN1, nG1, n1_1_7ms, n1_1_7mo, n1_1_7⟩
    · exact ⟨nN1, nG1, n1_1_6ms, n1_1_6mo, n1_1_6⟩
    · exact ⟨nN1, nG1, n1_1_5ms, n1_1_5mo, n1_1_5⟩
    · exact ⟨nN1, nG1, n1_1_4ms, n1_1_4mo, n1_1_4⟩
    · exact ⟨nN1, nG1, n1_1_3ms, n1_1_3mo, n1_1_3⟩
    · exact ⟨nN1, nG1, n1_1_2ms, n1_1_2mo, n1_1_2⟩
    · exact ⟨nN1, nG1, n1_1_1ms, n1_1_1mo, n1_1_1⟩
    · exact ⟨nN1, nG1, n1_1_0ms, n1_1_0mo, n1_1_0⟩
  · skip
    rcases nordAll_lens ls hls with rfl | rfl | rfl | rfl | rfl | rfl | rfl | rfl | rfl
    · exact ⟨nN1, nG1, n1_2_8ms, n1_2_8mo, n1_2_8⟩
    · exact ⟨nN1, nG1, n1_2_7ms, n1_2_7mo, n1_2_7⟩
    · exact ⟨nN1, nG1, n1_2_6ms, n1_2_6mo, n1_2_6⟩
    · exact ⟨nN1, nG1, n1_2_5ms, n1_2_5mo, n1_2_5⟩
    · exact ⟨nN1, nG1, n1_2_4ms, n1_2_4mo, n1_2_4⟩
    · exact ⟨nN1, nG1, n1_2_3ms, n1_2_3mo, n1_2_3⟩
    · exact ⟨nN1, nG1, n1_2_2ms, n1_2_2mo, n1_2_2⟩
    · exact ⟨nN1, nG1, n1_2_1ms, n1_2_1mo, n1_2_1⟩
    · exact ⟨nN1, nG1, n1_2_0ms, n1_2_0mo, n1_2_0⟩
  · skip
    rcases nordAll_lens ls hls with rfl | rfl | rfl | rfl | rfl | rfl | rfl | rfl | rfl
    · exact ⟨nN2, nG2, n2_0_8ms, n2_0_8mo, n2_0_8⟩
    · exact ⟨nN2, nG2, n2_0_7ms, n2_0_7mo, n2_0_7⟩
    · exact ⟨nN2, nG2, n2_0_6ms, n2_0_6mo, n2_0_6⟩
    · exact ⟨nN2, nG2, n2_0_5ms, n2_0_5mo, n2_0_5⟩
    · exact ⟨nN2, nG2, n2_0_4ms, n2_0_4mo, n2_0_4⟩
    · exact ⟨nN2, nG2, n2_0_3ms, n2_0_3mo, n2_0_3⟩
    · exact ⟨nN2, nG2, n2_0_2ms, n2_0_2mo, n2_0_2⟩
    · exact ⟨nN2, nG2, n2_0_1ms, n2_0_1mo, n2_0_1⟩
    · exact ⟨nN2, nG2, n2_0_0ms, n2_0_0mo, n2_0_0⟩
  · skip
    rcases nordAll_lens ls hls with rfl | rfl | rfl | rfl | rfl | rfl | rfl | rfl | rfl
    · exact ⟨nN2, nG2, n2_1_8ms, n2_1_8mo, n2_1_8⟩
    · exact ⟨nN2, nG2, n2_1_7ms, n2_1_7mo, n2_1_7⟩
    · exact ⟨nN2, nG2, n2_1_6ms, n2_1_6mo, n2_1_6⟩
    · exact ⟨nN2, nG2, n2_1_5ms, n2_1_5mo, n2_1_5⟩
    · exact ⟨nN2, nG2, n2_1_4ms, n2_1_4mo, n2_1_4⟩
    · exact ⟨nN2, nG2, n2_1_3ms, n2_1_3mo, n2_1_3⟩
    · exact ⟨nN2, nG2, n2_1_2ms, n2_1_2mo, n2_1_2⟩
    · exact ⟨nN2, nG2, n2_1_1ms, n2_1_1mo, n2_1_1⟩
    · exact ⟨nN2, nG2, n2_1_0ms, n2_1_0mo, n2_1_0⟩
  · skip
    rcases nordAll_lens ls hls with rfl | rfl | rfl | rfl | rfl | rfl | rfl | rfl | rfl
    · exact ⟨nN2, nG2, n2_2_8ms, n2_2_8mo, n2_2_8⟩
    · exact ⟨nN2, nG2, n2_2_7ms, n2_2_7mo, n2_2_7⟩
    · exact ⟨nN2, nG2, n2_2_6ms, n2_2_6mo, n2_2_6⟩
    · exact ⟨nN2, nG2, n2_2_5ms, n2_2_5mo, n2_2_5⟩
    · exact ⟨nN2, nG2, n2_2_4ms, n2_2_4mo, n2_2_4⟩
    · exact ⟨nN2, nG2, n2_2_3ms, n2_2_3mo, n2_2_3⟩
    · exact ⟨nN2, nG2, n2_2_2ms, n2_2_2mo, n2_2_2⟩
    · exact ⟨nN2, nG2, n2_2_1ms, n2_2_1mo, n2_2_1⟩
    · exact ⟨nN2, nG2, n2_2_0ms, n2_2_0mo, n2_2_0⟩
  · skip
    rcases nordAll_lens ls hls with rfl | rfl | rfl | rfl | rfl | rfl | rfl | rfl | rfl
    · exact ⟨nN3, nG3, n3_0_8ms, n3_0_8mo, n3_0_8⟩
    · exact ⟨nN3, nG3, n3_0_7ms, n3_0_7mo, n3_0_7⟩
    · exact ⟨nN3, nG3, n3_0_6ms, n3_0_6mo, n3_0_6⟩
    · exact ⟨nN3, nG3, n3_0_5ms, n3_0_5mo, n3_0_5⟩
    · exact ⟨nN3, nG3, n3_0_4ms, n3_0_4mo, n3_0_4⟩
    · exact ⟨nN3, nG3, n3_0_3ms, n3_0_3mo, n3_0_3⟩
    · exact ⟨nN3, nG3, n3_0_2ms, n3_0_2mo, n3_0_2⟩
    · exact ⟨nN3, nG3, n3_0_1ms, n3_0_1mo, n3_0_1⟩
    · exact ⟨nN3, nG3, n3_0_0ms, n3_0_0mo, n3_0_0⟩
  · skip
    rcases nordAll_lens ls hls with rfl | rfl | rfl | rfl | rfl | rfl | rfl | rfl | rfl
    · exact ⟨nN3, nG3, n3_1_8ms, n3_1_8mo, n3_1_8⟩
    · exact ⟨nN3, nG3, n3_1_7ms, n3_1_7mo, n3_1_7⟩
    · exact ⟨nN3, nG3, n3_1_6ms, n3_1_6mo, n3_1_6⟩
    · exact ⟨nN3, nG3, n3_1_5ms, n3_1_5mo, n3_1_5⟩
    · exact ⟨nN3, nG3, n3_1_4ms, n3_1_4mo, n3_1_4⟩
    · exact ⟨nN3, nG3, n3_1_3ms, n3_1_3mo, n3_1_3⟩
    · exact ⟨nN3, nG3, n3_1_2ms, n3_1_2mo, n3_1_2⟩
    · exact ⟨nN3, nG3, n3_1_1ms, n3_1_1mo, n3_1_1⟩
    · exact ⟨nN3, nG3, n3_1_0ms, n3_1_0mo, n3_1_0⟩
  · skip
    rcases nordAll_lens ls hls with rfl | rfl | rfl | rfl | rfl | rfl | rfl | rfl | rfl
    · exact ⟨nN3, nG3, n3_2_8ms, n3_2_8mo, n3_2_8⟩
    · exact ⟨nN3, nG3, n3_2_7ms, n3_2_7mo, n3_2_7⟩
    · exact ⟨nN3, nG3, n3_2_6ms, n3_2_6mo, n3_2_6⟩
    · exact ⟨nN3, nG3, n3_2_5ms, n3_2_5mo, n3_2_5⟩
    · exact ⟨nN3, nG3, n3_2_4ms, n3_2_4mo, n3_2_4⟩
    · exact ⟨nN3, nG3, n3_2_3ms, n3_2_3mo, n3_2_3⟩
    · exact ⟨nN3, nG3, n3_2_2ms, n3_2_2mo, n3_2_2⟩
    · exact ⟨nN3, nG3, n3_2_1ms, n3_2_1mo, n3_2_1⟩
    · exact ⟨nN3, nG3, n3_2_0ms, n3_2_0mo, n3_2_0⟩
  · skip
    rcases nordAll_lens ls hls with rfl | rfl | rfl | rfl | rfl | rfl | rfl | rfl | rfl
    · exact ⟨nN4, nG4, n4_0_8ms, n4_0_8mo, n4_0_8⟩
    · exact ⟨nN4, nG4, n4_0_7ms, n4_0_7mo, n4_0_7⟩
    · exact ⟨nN4, nG4, n4_0_6ms, n4_0_6mo, n4_0_6⟩
    · exact ⟨nN4, nG4, n4_0_5ms, n4_0_5mo, n4_0_5⟩
    · exact ⟨nN4, nG4, n4_0_4ms, n4_0_4mo, n4_0_4⟩
    · exact ⟨nN4, nG4, n4_0_3ms, n4_0_3mo, n4_0_3⟩
    · exact ⟨nN4, nG4, n4_0_2ms, n4_0_2mo, n4_0_2⟩
    · exact ⟨nN4, nG4, n4_0_1ms, n4_0_1mo, n4_0_1⟩
    · exact ⟨nN4, nG4, n4_0_0ms, n4_0_0mo, n4_0_0⟩
  · skip
    rcases nordAll_lens ls hls with rfl | rfl | rfl | rfl | rfl | rfl | rfl | rfl | rfl
    · exact ⟨nN4, nG4, n4_1_8ms, n4_1_8mo, n4_1_8⟩
    · exact ⟨nN4, nG4, n4_1_7ms, n4_1_7mo, n4_1_7⟩
    · exact ⟨nN4, nG4, n4_1_6ms, n4_1_6mo, n4_1_6⟩
    · exact ⟨nN4, nG4, n4_1_5ms, n4_1_5mo, n4_1_5⟩
    · exact ⟨nN4, nG4, n4_1_4ms, n4_1_4mo, n4_1_4⟩
    · exact ⟨nN4, nG4, n4_1_3ms, n4_1_3mo, n4_1_3⟩
    · exact ⟨nN4, nG4, n4_1_2ms, n4_1_2mo, n4_1_2⟩
    · exact ⟨nN4, nG4, n4_1_1ms, n4_1_1mo, n4_1_1⟩
    · exact ⟨nN4, nG4, n4_1_0ms, n4_1_0mo, n4_1_0⟩
  · skip
    rcases nordAll_lens ls hls with rfl | rfl | rfl | rfl | rfl | rfl | rfl | rfl | rfl
    · exact ⟨nN4, nG4, n4_2_8ms, n4_2_8mo, n4_2_8⟩
    · exact ⟨nN4, nG4, n4_2_7ms, n4_2_7mo, n4_2_7⟩
    · exact ⟨nN4, nG4, n4_2_6ms, n4_2_6mo, n4_2_6⟩
    · exact ⟨nN4, nG4, n4_2_5ms, n4_2_5mo, n4_2_5⟩
    · exact ⟨nN4, nG4, n4_2_4ms, n4_2_4mo, n4_2_4⟩
    · exact ⟨nN4, nG4, n4_2_3ms, n4_2_3mo, n4_2_3⟩
    · exact ⟨nN4, nG4, n4_2_2ms, n4_2_2mo, n4_2_2⟩
    · exact ⟨nN4, nG4, n4_2_1ms, n4_2_1mo, n4_2_1⟩
    · exact ⟨nN4, nG4, n4_2_0ms, n4_2_0mo, n4_2_0⟩
theorem nordAll_any (a0 : Int) (a1 : Int) (v2 : Value) (zs2 : List Int) (a3 : Int) (a4 : Nat) (v5 : Value) (zs5 : List Int) (a6 : Int) (a7 : Bool) (w : World) (_h0 : -9223372036854775808 ≤ a0 ∧ a0 ≤ 9223372036854775807) (_h1 : -9223372036854775808 ≤ a1 ∧ a1 ≤ 9223372036854775807) (h2 : Ints w v2 zs2) (_h3 : -9223372036854775808 ≤ a3 ∧ a3 ≤ 9223372036854775807) (h4 : a4 < 18446744073709551616) (h5 : Ints w v5 zs5) (_h6 : -9223372036854775808 ≤ a6 ∧ a6 ≤ 9223372036854775807)  :
    Calls Try.prog 3 #[.int .i64 a0, .int .i64 a1, v2, .int .i64 a3, .float .f64 a4, v5, .int .i64 a6, .bool a7] w fun e w' => e = .returned (.bool true) ∧ Below w.heap.size w w' := by
  refine law_ofM (ds := [.i a0, .i a1, .is zs2, .i a3, .f a4, .is zs5, .i a6, .b a7]) (nx0 := 10) (k := 200) (base := 100) (l := [(0, 5), (1, 3)]) (lens := [(2, 8)]) (by simp) (by simp) (by decide) (vs := #[.int .i64 a0, .int .i64 a1, v2, .int .i64 a3, .float .f64 a4, v5, .int .i64 a6, .bool a7]) ⟨rfl, rfl, h2, rfl, ⟨rfl, h4⟩, h5, rfl, rfl, trivial⟩ fun ks hk => ?_
  have hk : ks = [.i, .i, .q, .i, .f, .q, .i, .b] := by simpa [AD.kind, shapes, shapes1] using hk
  subst hk
  exact nordAll_all
end Go.Proofs.Ytkncchofgehnpaa
