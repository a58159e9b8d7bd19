/-
  'TapeEvals': whatever it is given.
-/
import Derived.Test.YticbgaflhiokgaaTapeEvals0
import Derived.Test.YticbgaflhiokgaaTapeEvals1
import Derived.Test.YticbgaflhiokgaaTapeEvals2
import Derived.Test.YticbgaflhiokgaaTapeEvals3
import Derived.Test.YticbgaflhiokgaaTapeEvals4
import Derived.Test.YticbgaflhiokgaaTapeEvals5
import Derived.Test.YticbgaflhiokgaaTapeEvals6
import Derived.Test.YticbgaflhiokgaaTapeEvals7
import Derived.Test.YticbgaflhiokgaaTapeEvals8
namespace Go.Proofs.Yticbgaflhiokgaa
open Go.RowKit Ex
theorem tapeEvals_all : ∀ tb, tb ∈ tabs [(0, 3)] → ∀ ls, ls ∈ lensAll [(1, 8)] → ∃ t, tabGood 100 t = true ∧ ∃ ms, AllMem (memRun tb ls t) ms ∧ lawRunM 4 10 200 [.i, .q, .b, .q, .q, .i, .i] tb ls t ms = true := by
  intro tb ht ls hls
  simp only [tabs, List.range, List.range.loop, List.flatMap_cons, List.flatMap_nil, List.map_cons, List.map_nil, List.append_nil, List.cons_append, List.nil_append, List.mem_cons, List.not_mem_nil, or_false] at ht
  rcases ht with rfl | rfl | rfl
  · skip
    simp only [lensAll, List.mem_flatMap, List.mem_map, List.mem_range] at hls
    obtain ⟨L0, hL0, ls1, hl1, rfl⟩ := hls
    have hc0 : L0 = 0 ∨ L0 = 1 ∨ L0 = 2 ∨ L0 = 3 ∨ L0 = 4 ∨ L0 = 5 ∨ L0 = 6 ∨ L0 = 7 ∨ L0 = 8 := by omega
    rcases hc0 with rfl | rfl | rfl | rfl | rfl | rfl | rfl | rfl | rfl
    · skip
      obtain rfl : ls1 = [] := by simpa [lensAll] using hl1
      exact ⟨tapeEvalsNms0, tapeEvalsGood0, tapeEvals_0_0_ms, tapeEvals_0_0_mo, tapeEvals_0_0⟩
    · skip
      obtain rfl : ls1 = [] := by simpa [lensAll] using hl1
      exact ⟨tapeEvalsNms0, tapeEvalsGood0, tapeEvals_0_1_ms, tapeEvals_0_1_mo, tapeEvals_0_1⟩
    · skip
      obtain rfl : ls1 = [] := by simpa [lensAll] using hl1
      exact ⟨tapeEvalsNms0, tapeEvalsGood0, tapeEvals_0_2_ms, tapeEvals_0_2_mo, tapeEvals_0_2⟩
    · skip
      obtain rfl : ls1 = [] := by simpa [lensAll] using hl1
      exact ⟨tapeEvalsNms0, tapeEvalsGood0, tapeEvals_0_3_ms, tapeEvals_0_3_mo, tapeEvals_0_3⟩
    · skip
      obtain rfl : ls1 = [] := by simpa [lensAll] using hl1
      exact ⟨tapeEvalsNms0, tapeEvalsGood0, tapeEvals_0_4_ms, tapeEvals_0_4_mo, tapeEvals_0_4⟩
    · skip
      obtain rfl : ls1 = [] := by simpa [lensAll] using hl1
      exact ⟨tapeEvalsNms0, tapeEvalsGood0, tapeEvals_0_5_ms, tapeEvals_0_5_mo, tapeEvals_0_5⟩
    · skip
      obtain rfl : ls1 = [] := by simpa [lensAll] using hl1
      exact ⟨tapeEvalsNms0, tapeEvalsGood0, tapeEvals_0_6_ms, tapeEvals_0_6_mo, tapeEvals_0_6⟩
    · skip
      obtain rfl : ls1 = [] := by simpa [lensAll] using hl1
      exact ⟨tapeEvalsNms0, tapeEvalsGood0, tapeEvals_0_7_ms, tapeEvals_0_7_mo, tapeEvals_0_7⟩
    · skip
      obtain rfl : ls1 = [] := by simpa [lensAll] using hl1
      exact ⟨tapeEvalsNms0, tapeEvalsGood0, tapeEvals_0_8_ms, tapeEvals_0_8_mo, tapeEvals_0_8⟩
  · skip
    simp only [lensAll, List.mem_flatMap, List.mem_map, List.mem_range] at hls
    obtain ⟨L0, hL0, ls1, hl1, rfl⟩ := hls
    have hc0 : L0 = 0 ∨ L0 = 1 ∨ L0 = 2 ∨ L0 = 3 ∨ L0 = 4 ∨ L0 = 5 ∨ L0 = 6 ∨ L0 = 7 ∨ L0 = 8 := by omega
    rcases hc0 with rfl | rfl | rfl | rfl | rfl | rfl | rfl | rfl | rfl
    · skip
      obtain rfl : ls1 = [] := by simpa [lensAll] using hl1
      exact ⟨tapeEvalsNms1, tapeEvalsGood1, tapeEvals_1_0_ms, tapeEvals_1_0_mo, tapeEvals_1_0⟩
    · skip
      obtain rfl : ls1 = [] := by simpa [lensAll] using hl1
      exact ⟨tapeEvalsNms1, tapeEvalsGood1, tapeEvals_1_1_ms, tapeEvals_1_1_mo, tapeEvals_1_1⟩
    · skip
      obtain rfl : ls1 = [] := by simpa [lensAll] using hl1
      exact ⟨tapeEvalsNms1, tapeEvalsGood1, tapeEvals_1_2_ms, tapeEvals_1_2_mo, tapeEvals_1_2⟩
    · skip
      obtain rfl : ls1 = [] := by simpa [lensAll] using hl1
      exact ⟨tapeEvalsNms1, tapeEvalsGood1, tapeEvals_1_3_ms, tapeEvals_1_3_mo, tapeEvals_1_3⟩
    · skip
      obtain rfl : ls1 = [] := by simpa [lensAll] using hl1
      exact ⟨tapeEvalsNms1, tapeEvalsGood1, tapeEvals_1_4_ms, tapeEvals_1_4_mo, tapeEvals_1_4⟩
    · skip
      obtain rfl : ls1 = [] := by simpa [lensAll] using hl1
      exact ⟨tapeEvalsNms1, tapeEvalsGood1, tapeEvals_1_5_ms, tapeEvals_1_5_mo, tapeEvals_1_5⟩
    · skip
      obtain rfl : ls1 = [] := by simpa [lensAll] using hl1
      exact ⟨tapeEvalsNms1, tapeEvalsGood1, tapeEvals_1_6_ms, tapeEvals_1_6_mo, tapeEvals_1_6⟩
    · skip
      obtain rfl : ls1 = [] := by simpa [lensAll] using hl1
      exact ⟨tapeEvalsNms1, tapeEvalsGood1, tapeEvals_1_7_ms, tapeEvals_1_7_mo, tapeEvals_1_7⟩
    · skip
      obtain rfl : ls1 = [] := by simpa [lensAll] using hl1
      exact ⟨tapeEvalsNms1, tapeEvalsGood1, tapeEvals_1_8_ms, tapeEvals_1_8_mo, tapeEvals_1_8⟩
  · skip
    simp only [lensAll, List.mem_flatMap, List.mem_map, List.mem_range] at hls
    obtain ⟨L0, hL0, ls1, hl1, rfl⟩ := hls
    have hc0 : L0 = 0 ∨ L0 = 1 ∨ L0 = 2 ∨ L0 = 3 ∨ L0 = 4 ∨ L0 = 5 ∨ L0 = 6 ∨ L0 = 7 ∨ L0 = 8 := by omega
    rcases hc0 with rfl | rfl | rfl | rfl | rfl | rfl | rfl | rfl | rfl
    · skip
      obtain rfl : ls1 = [] := by simpa [lensAll] using hl1
      exact ⟨tapeEvalsNms2, tapeEvalsGood2, tapeEvals_2_0_ms, tapeEvals_2_0_mo, tapeEvals_2_0⟩
    · skip
      obtain rfl : ls1 = [] := by simpa [lensAll] using hl1
      exact ⟨tapeEvalsNms2, tapeEvalsGood2, tapeEvals_2_1_ms, tapeEvals_2_1_mo, tapeEvals_2_1⟩
    · skip
      obtain rfl : ls1 = [] := by simpa [lensAll] using hl1
      exact ⟨tapeEvalsNms2, tapeEvalsGood2, tapeEvals_2_2_ms, tapeEvals_2_2_mo, tapeEvals_2_2⟩
    · skip
      obtain rfl : ls1 = [] := by simpa [lensAll] using hl1
      exact ⟨tapeEvalsNms2, tapeEvalsGood2, tapeEvals_2_3_ms, tapeEvals_2_3_mo, tapeEvals_2_3⟩
    · skip
      obtain rfl : ls1 = [] := by simpa [lensAll] using hl1
      exact ⟨tapeEvalsNms2, tapeEvalsGood2, tapeEvals_2_4_ms, tapeEvals_2_4_mo, tapeEvals_2_4⟩
    · skip
      obtain rfl : ls1 = [] := by simpa [lensAll] using hl1
      exact ⟨tapeEvalsNms2, tapeEvalsGood2, tapeEvals_2_5_ms, tapeEvals_2_5_mo, tapeEvals_2_5⟩
    · skip
      obtain rfl : ls1 = [] := by simpa [lensAll] using hl1
      exact ⟨tapeEvalsNms2, tapeEvalsGood2, tapeEvals_2_6_ms, tapeEvals_2_6_mo, tapeEvals_2_6⟩
    · skip
      obtain rfl : ls1 = [] := by simpa [lensAll] using hl1
      exact ⟨tapeEvalsNms2, tapeEvalsGood2, tapeEvals_2_7_ms, tapeEvals_2_7_mo, tapeEvals_2_7⟩
    · skip
      obtain rfl : ls1 = [] := by simpa [lensAll] using hl1
      exact ⟨tapeEvalsNms2, tapeEvalsGood2, tapeEvals_2_8_ms, tapeEvals_2_8_mo, tapeEvals_2_8⟩
theorem tapeEvals_any (a0 : Int) (v1 : Value) (zs1 : List Int) (a2 : Bool) (v3 : Value) (zs3 : List Int) (v4 : Value) (zs4 : List Int) (a5 : Int) (a6 : Int) (w : World) (_h0 : -9223372036854775808 ≤ a0 ∧ a0 ≤ 9223372036854775807) (h1 : Ints w v1 zs1)  (h3 : Ints w v3 zs3) (h4 : Ints w v4 zs4) (_h5 : -9223372036854775808 ≤ a5 ∧ a5 ≤ 9223372036854775807) (_h6 : -9223372036854775808 ≤ a6 ∧ a6 ≤ 9223372036854775807) :
    Calls Try.prog 4 #[.int .i64 a0, v1, .bool a2, v3, v4, .int .i64 a5, .int .i64 a6] w fun e w' => e = .returned (.bool true) ∧ Below w.heap.size w w' := by
  refine law_ofM (ds := [.i a0, .is zs1, .b a2, .is zs3, .is zs4, .i a5, .i a6]) (nx0 := 10) (k := 200) (base := 100) (l := [(0, 3)]) (lens := [(1, 8)]) (by simp) (by simp) (by decide) (vs := #[.int .i64 a0, v1, .bool a2, v3, v4, .int .i64 a5, .int .i64 a6]) ⟨rfl, h1, rfl, h3, h4, rfl, rfl, trivial⟩ fun ks hk => ?_
  have hk : ks = [.i, .q, .b, .q, .q, .i, .i] := by simpa [AD.kind, shapes, shapes1] using hk
  subst hk
  exact tapeEvals_all
end Go.Proofs.Yticbgaflhiokgaa
