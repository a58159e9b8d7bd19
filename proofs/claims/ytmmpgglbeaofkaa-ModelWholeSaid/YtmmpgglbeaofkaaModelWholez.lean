/-
  'ModelWhole': whatever it is given.
-/
import Derived.Test.YtmmpgglbeaofkaaModelWhole0
namespace Go.Proofs.Ytmmpgglbeaofkaa
open Go.RowKit Ex
theorem modelWhole_all_zzii : ∀ t, t ∈ tabs [] → lawRun 6 10 200 [.z, .z, .i, .i] t = true := by
  intro t ht
  obtain rfl : t = [] := by simpa [tabs] using ht
  exact modelWhole_zzii_x
theorem modelWhole_all_zqii : ∀ t, t ∈ tabs [] → lawRun 6 10 200 [.z, .q, .i, .i] t = true := by
  intro t ht
  obtain rfl : t = [] := by simpa [tabs] using ht
  exact modelWhole_zqii_x
theorem modelWhole_all_qzii : ∀ t, t ∈ tabs [] → lawRun 6 10 200 [.q, .z, .i, .i] t = true := by
  intro t ht
  obtain rfl : t = [] := by simpa [tabs] using ht
  exact modelWhole_qzii_x
theorem modelWhole_all_qqii : ∀ t, t ∈ tabs [] → lawRun 6 10 200 [.q, .q, .i, .i] t = true := by
  intro t ht
  obtain rfl : t = [] := by simpa [tabs] using ht
  exact modelWhole_qqii_x
theorem modelWhole_any (v0 : Value) (zs0 : List Int) (v1 : Value) (zs1 : List Int) (a2 : Int) (a3 : Int) (w : World) (h0 : Ints w v0 zs0) (h1 : Ints w v1 zs1) (_h2 : -9223372036854775808 ≤ a2 ∧ a2 ≤ 9223372036854775807) (_h3 : -9223372036854775808 ≤ a3 ∧ a3 ≤ 9223372036854775807) :
    Calls Try.prog 6 #[v0, v1, .int .i64 a2, .int .i64 a3] w fun e w' => e = .returned (.bool true) ∧ Below w.heap.size w w' := by
  refine law_of (ds := [.is zs0, .is zs1, .i a2, .i a3]) (nx0 := 10) (k := 200) (l := []) (by simp) (by decide) (vs := #[v0, v1, .int .i64 a2, .int .i64 a3]) ⟨h0, h1, rfl, rfl, trivial⟩ fun ks hk => ?_
  simp only [List.map_cons, List.map_nil, AD.kind, shapes, shapes1, List.flatMap_cons, List.flatMap_nil, List.append_nil, List.cons_append, List.nil_append, List.mem_cons, List.not_mem_nil, or_false] at hk
  rcases hk with rfl | rfl | rfl | rfl
  · exact modelWhole_all_zzii
  · exact modelWhole_all_zqii
  · exact modelWhole_all_qzii
  · exact modelWhole_all_qqii
end Go.Proofs.Ytmmpgglbeaofkaa
