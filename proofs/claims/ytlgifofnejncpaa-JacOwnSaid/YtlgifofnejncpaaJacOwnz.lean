/-
  'JacOwn': whatever it is given.
-/
import Derived.Test.YtlgifofnejncpaaJacOwn0
import Derived.Test.YtlgifofnejncpaaJacOwn1
import Derived.Test.YtlgifofnejncpaaJacOwn2
import Derived.Test.YtlgifofnejncpaaJacOwn3
import Derived.Test.YtlgifofnejncpaaJacOwn4
import Derived.Test.YtlgifofnejncpaaJacOwn5
import Derived.Test.YtlgifofnejncpaaJacOwn6
import Derived.Test.YtlgifofnejncpaaJacOwn7
import Derived.Test.YtlgifofnejncpaaJacOwn8
import Derived.Test.YtlgifofnejncpaaJacOwn9
import Derived.Test.YtlgifofnejncpaaJacOwn10
namespace Go.Proofs.Ytlgifofnejncpaa
open Go.RowKit Ex
theorem jacOwn_lens : ∀ ls, ls ∈ lensAll [(1, 8)] → ls = (lenL 1 8 8 ++ []) ∨ ls = (lenL 1 7 8 ++ []) ∨ ls = (lenL 1 6 8 ++ []) ∨ ls = (lenL 1 5 8 ++ []) ∨ ls = (lenL 1 4 8 ++ []) ∨ ls = (lenL 1 3 8 ++ []) ∨ ls = (lenL 1 2 8 ++ []) ∨ ls = (lenL 1 1 8 ++ []) ∨ ls = (lenL 1 0 8 ++ []) := by
  intro ls hls
  simp only [lensAll, List.mem_flatMap, List.mem_map, List.mem_range] at hls
  obtain ⟨L0, hL0, ls1, hl1, rfl⟩ := hls
  have hc0 : L0 = 0 ∨ L0 = 1 ∨ L0 = 2 ∨ L0 = 3 ∨ L0 = 4 ∨ L0 = 5 ∨ L0 = 6 ∨ L0 = 7 ∨ L0 = 8 := by omega
  rcases hc0 with rfl | rfl | rfl | rfl | rfl | rfl | rfl | rfl | rfl
  · skip
    obtain rfl : ls1 = [] := by simpa [lensAll] using hl1
    exact (.inr (.inr (.inr (.inr (.inr (.inr (.inr (.inr rfl))))))))
  · skip
    obtain rfl : ls1 = [] := by simpa [lensAll] using hl1
    exact (.inr (.inr (.inr (.inr (.inr (.inr (.inr (.inl rfl))))))))
  · skip
    obtain rfl : ls1 = [] := by simpa [lensAll] using hl1
    exact (.inr (.inr (.inr (.inr (.inr (.inr (.inl rfl)))))))
  · skip
    obtain rfl : ls1 = [] := by simpa [lensAll] using hl1
    exact (.inr (.inr (.inr (.inr (.inr (.inl rfl))))))
  · skip
    obtain rfl : ls1 = [] := by simpa [lensAll] using hl1
    exact (.inr (.inr (.inr (.inr (.inl rfl)))))
  · skip
    obtain rfl : ls1 = [] := by simpa [lensAll] using hl1
    exact (.inr (.inr (.inr (.inl rfl))))
  · skip
    obtain rfl : ls1 = [] := by simpa [lensAll] using hl1
    exact (.inr (.inr (.inl rfl)))
  · skip
    obtain rfl : ls1 = [] := by simpa [lensAll] using hl1
    exact (.inr (.inl rfl))
  · skip
    obtain rfl : ls1 = [] := by simpa [lensAll] using hl1
    exact (.inl rfl)
theorem jacOwn_all : ∀ tb, tb ∈ tabs [(0, 3)] → ∀ ls, ls ∈ lensAll [(1, 8)] → ∃ t, tabGood 100 t = true ∧ ∃ ms, AllMem (memRun [] ls t) ms ∧ lawRunM 8 10 200 [.i, .q, .q, .i] tb ls t ms = true := by
  intro tb ht ls hls
  simp only [tabs, List.range, List.range.loop, List.flatMap_cons, List.flatMap_nil, List.map_cons, List.map_nil, List.append_nil, List.cons_append, List.nil_append, List.mem_cons, List.not_mem_nil, or_false] at ht
  rcases ht with rfl | rfl | rfl
  · skip
    rcases jacOwn_lens ls hls with rfl | rfl | rfl | rfl | rfl | rfl | rfl | rfl | rfl
    · exact ⟨joN0, joG0, jo0_8ms, jo0_8mo, jo0_8⟩
    · exact ⟨joN0, joG0, jo0_7ms, jo0_7mo, jo0_7⟩
    · exact ⟨joN0, joG0, jo0_6ms, jo0_6mo, jo0_6⟩
    · exact ⟨joN0, joG0, jo0_5ms, jo0_5mo, jo0_5⟩
    · exact ⟨joN0, joG0, jo0_4ms, jo0_4mo, jo0_4⟩
    · exact ⟨joN0, joG0, jo0_3ms, jo0_3mo, jo0_3⟩
    · exact ⟨joN0, joG0, jo0_2ms, jo0_2mo, jo0_2⟩
    · exact ⟨joN0, joG0, jo0_1ms, jo0_1mo, jo0_1⟩
    · exact ⟨joN0, joG0, jo0_0ms, jo0_0mo, jo0_0⟩
  · skip
    rcases jacOwn_lens ls hls with rfl | rfl | rfl | rfl | rfl | rfl | rfl | rfl | rfl
    · exact ⟨joN1, joG1, jo1_8ms, jo1_8mo, jo1_8⟩
    · exact ⟨joN1, joG1, jo1_7ms, jo1_7mo, jo1_7⟩
    · exact ⟨joN1, joG1, jo1_6ms, jo1_6mo, jo1_6⟩
    · exact ⟨joN1, joG1, jo1_5ms, jo1_5mo, jo1_5⟩
    · exact ⟨joN1, joG1, jo1_4ms, jo1_4mo, jo1_4⟩
    · exact ⟨joN1, joG1, jo1_3ms, jo1_3mo, jo1_3⟩
    · exact ⟨joN1, joG1, jo1_2ms, jo1_2mo, jo1_2⟩
    · exact ⟨joN1, joG1, jo1_1ms, jo1_1mo, jo1_1⟩
    · exact ⟨joN1, joG1, jo1_0ms, jo1_0mo, jo1_0⟩
  · skip
    rcases jacOwn_lens ls hls with rfl | rfl | rfl | rfl | rfl | rfl | rfl | rfl | rfl
    · exact ⟨joN2, joG2, jo2_8ms, jo2_8mo, jo2_8⟩
    · exact ⟨joN2, joG2, jo2_7ms, jo2_7mo, jo2_7⟩
    · exact ⟨joN2, joG2, jo2_6ms, jo2_6mo, jo2_6⟩
    · exact ⟨joN2, joG2, jo2_5ms, jo2_5mo, jo2_5⟩
    · exact ⟨joN2, joG2, jo2_4ms, jo2_4mo, jo2_4⟩
    · exact ⟨joN2, joG2, jo2_3ms, jo2_3mo, jo2_3⟩
    · exact ⟨joN2, joG2, jo2_2ms, jo2_2mo, jo2_2⟩
    · exact ⟨joN2, joG2, jo2_1ms, jo2_1mo, jo2_1⟩
    · exact ⟨joN2, joG2, jo2_0ms, jo2_0mo, jo2_0⟩
theorem jacOwn_any (a0 : Int) (v1 : Value) (zs1 : List Int) (v2 : Value) (zs2 : List Int) (a3 : Int) (w : World) (_h0 : -9223372036854775808 ≤ a0 ∧ a0 ≤ 9223372036854775807) (h1 : Ints w v1 zs1) (h2 : Ints w v2 zs2) (_h3 : -9223372036854775808 ≤ a3 ∧ a3 ≤ 9223372036854775807) :
    Calls Try.prog 8 #[.int .i64 a0, v1, v2, .int .i64 a3] w fun e w' => e = .returned (.bool true) ∧ Below w.heap.size w w' := by
  refine law_ofM (ds := [.i a0, .is zs1, .is zs2, .i a3]) (nx0 := 10) (k := 200) (base := 100) (l := [(0, 3)]) (lens := [(1, 8)]) (by simp) (by simp) (by decide) (vs := #[.int .i64 a0, v1, v2, .int .i64 a3]) ⟨rfl, h1, h2, rfl, trivial⟩ fun ks hk => ?_
  have hk : ks = [.i, .q, .q, .i] := by simpa [AD.kind, shapes, shapes1] using hk
  subst hk
  exact jacOwn_all
end Go.Proofs.Ytlgifofnejncpaa
