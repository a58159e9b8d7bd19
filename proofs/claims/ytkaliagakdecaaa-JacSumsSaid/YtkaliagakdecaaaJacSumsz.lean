/-
  'JacSums': whatever it is given.
-/
import Derived.Test.YtkaliagakdecaaaJacSums0
import Derived.Test.YtkaliagakdecaaaJacSums1
import Derived.Test.YtkaliagakdecaaaJacSums2
import Derived.Test.YtkaliagakdecaaaJacSums3
import Derived.Test.YtkaliagakdecaaaJacSums4
import Derived.Test.YtkaliagakdecaaaJacSums5
import Derived.Test.YtkaliagakdecaaaJacSums6
import Derived.Test.YtkaliagakdecaaaJacSums7
import Derived.Test.YtkaliagakdecaaaJacSums8
namespace Go.Proofs.Ytkaliagakdecaaa
open Go.RowKit Ex
theorem jacSums_lens : ∀ ls, ls ∈ lensAll [(1, 8)] → ls = (lenL 1 8 8 ++ []) ∨ ls = (lenL 1 7 8 ++ []) ∨ ls = (lenL 1 6 8 ++ []) ∨ ls = (lenL 1 5 8 ++ []) ∨ ls = (lenL 1 4 8 ++ []) ∨ ls = (lenL 1 3 8 ++ []) ∨ ls = (lenL 1 2 8 ++ []) ∨ ls = (lenL 1 1 8 ++ []) ∨ ls = (lenL 1 0 8 ++ []) := by
  intro ls hls
  simp only [lensAll, List.mem_flatMap, List.mem_map, List.mem_range] at hls
  obtain ⟨L0, hL0, ls1, hl1, rfl⟩ := hls
  have hc0 : L0 = 0 ∨ L0 = 1 ∨ L0 = 2 ∨ L0 = 3 ∨ L0 = 4 ∨ L0 = 5 ∨ L0 = 6 ∨ L0 = 7 ∨ L0 = 8 := by omega
  rcases hc0 with rfl | rfl | rfl | rfl | rfl | rfl | rfl | rfl | rfl
  · skip
    obtain rfl : ls1 = [] := by simpa [lensAll] using hl1
    exact (.inr (.inr (.inr (.inr (.inr (.inr (.inr (.inr rfl))))))))
  · skip
    obtain rfl : ls1 = [] := by simpa [lensAll] using hl1
    exact (.inr (.inr (.inr (.inr (.inr (.inr (.inr (.inl rfl))))))))
  · skip
    obtain rfl : ls1 = [] := by simpa [lensAll] using hl1
    exact (.inr (.inr (.inr (.inr (.inr (.inr (.inl rfl)))))))
  · skip
    obtain rfl : ls1 = [] := by simpa [lensAll] using hl1
    exact (.inr (.inr (.inr (.inr (.inr (.inl rfl))))))
  · skip
    obtain rfl : ls1 = [] := by simpa [lensAll] using hl1
    exact (.inr (.inr (.inr (.inr (.inl rfl)))))
  · skip
    obtain rfl : ls1 = [] := by simpa [lensAll] using hl1
    exact (.inr (.inr (.inr (.inl rfl))))
  · skip
    obtain rfl : ls1 = [] := by simpa [lensAll] using hl1
    exact (.inr (.inr (.inl rfl)))
  · skip
    obtain rfl : ls1 = [] := by simpa [lensAll] using hl1
    exact (.inr (.inl rfl))
  · skip
    obtain rfl : ls1 = [] := by simpa [lensAll] using hl1
    exact (.inl rfl)
theorem jacSums_all : ∀ tb, tb ∈ tabs [(0, 3)] → ∀ ls, ls ∈ lensAll [(1, 8)] → ∃ t, tabGood 100 t = true ∧ ∃ ms, AllMem (memRun [] ls t) ms ∧ lawRunM 4 10 200 [.i, .q, .q, .b] tb ls t ms = true := by
  intro tb ht ls hls
  simp only [tabs, List.range, List.range.loop, List.flatMap_cons, List.flatMap_nil, List.map_cons, List.map_nil, List.append_nil, List.cons_append, List.nil_append, List.mem_cons, List.not_mem_nil, or_false] at ht
  rcases ht with rfl | rfl | rfl
  · skip
    rcases jacSums_lens ls hls with rfl | rfl | rfl | rfl | rfl | rfl | rfl | rfl | rfl
    · exact ⟨jsN0, jsG0, js0_8ms, js0_8mo, js0_8⟩
    · exact ⟨jsN0, jsG0, js0_7ms, js0_7mo, js0_7⟩
    · exact ⟨jsN0, jsG0, js0_6ms, js0_6mo, js0_6⟩
    · exact ⟨jsN0, jsG0, js0_5ms, js0_5mo, js0_5⟩
    · exact ⟨jsN0, jsG0, js0_4ms, js0_4mo, js0_4⟩
    · exact ⟨jsN0, jsG0, js0_3ms, js0_3mo, js0_3⟩
    · exact ⟨jsN0, jsG0, js0_2ms, js0_2mo, js0_2⟩
    · exact ⟨jsN0, jsG0, js0_1ms, js0_1mo, js0_1⟩
    · exact ⟨jsN0, jsG0, js0_0ms, js0_0mo, js0_0⟩
  · skip
    rcases jacSums_lens ls hls with rfl | rfl | rfl | rfl | rfl | rfl | rfl | rfl | rfl
    · exact ⟨jsN1, jsG1, js1_8ms, js1_8mo, js1_8⟩
    · exact ⟨jsN1, jsG1, js1_7ms, js1_7mo, js1_7⟩
    · exact ⟨jsN1, jsG1, js1_6ms, js1_6mo, js1_6⟩
    · exact ⟨jsN1, jsG1, js1_5ms, js1_5mo, js1_5⟩
    · exact ⟨jsN1, jsG1, js1_4ms, js1_4mo, js1_4⟩
    · exact ⟨jsN1, jsG1, js1_3ms, js1_3mo, js1_3⟩
    · exact ⟨jsN1, jsG1, js1_2ms, js1_2mo, js1_2⟩
    · exact ⟨jsN1, jsG1, js1_1ms, js1_1mo, js1_1⟩
    · exact ⟨jsN1, jsG1, js1_0ms, js1_0mo, js1_0⟩
  · skip
    rcases jacSums_lens ls hls with rfl | rfl | rfl | rfl | rfl | rfl | rfl | rfl | rfl
    · exact ⟨jsN2, jsG2, js2_8ms, js2_8mo, js2_8⟩
    · exact ⟨jsN2, jsG2, js2_7ms, js2_7mo, js2_7⟩
    · exact ⟨jsN2, jsG2, js2_6ms, js2_6mo, js2_6⟩
    · exact ⟨jsN2, jsG2, js2_5ms, js2_5mo, js2_5⟩
    · exact ⟨jsN2, jsG2, js2_4ms, js2_4mo, js2_4⟩
    · exact ⟨jsN2, jsG2, js2_3ms, js2_3mo, js2_3⟩
    · exact ⟨jsN2, jsG2, js2_2ms, js2_2mo, js2_2⟩
    · exact ⟨jsN2, jsG2, js2_1ms, js2_1mo, js2_1⟩
    · exact ⟨jsN2, jsG2, js2_0ms, js2_0mo, js2_0⟩
theorem jacSums_any (a0 : Int) (v1 : Value) (zs1 : List Int) (v2 : Value) (zs2 : List Int) (a3 : Bool) (w : World) (_h0 : -9223372036854775808 ≤ a0 ∧ a0 ≤ 9223372036854775807) (h1 : Ints w v1 zs1) (h2 : Ints w v2 zs2)  :
    Calls Try.prog 4 #[.int .i64 a0, v1, v2, .bool a3] w fun e w' => e = .returned (.bool true) ∧ Below w.heap.size w w' := by
  refine law_ofM (ds := [.i a0, .is zs1, .is zs2, .b a3]) (nx0 := 10) (k := 200) (base := 100) (l := [(0, 3)]) (lens := [(1, 8)]) (by simp) (by simp) (by decide) (vs := #[.int .i64 a0, v1, v2, .bool a3]) ⟨rfl, h1, h2, rfl, trivial⟩ fun ks hk => ?_
  have hk : ks = [.i, .q, .q, .b] := by simpa [AD.kind, shapes, shapes1] using hk
  subst hk
  exact jacSums_all
end Go.Proofs.Ytkaliagakdecaaa
