/-
  'JacNorms': whatever it is given.
-/
import Derived.Test.YtlgifofnejncpaaGreatJacNorms0
import Derived.Test.YtlgifofnejncpaaGreatJacNorms6
import Derived.Test.YtlgifofnejncpaaGreatJacNorms12
import Derived.Test.YtlgifofnejncpaaGreatJacNorms18
import Derived.Test.YtlgifofnejncpaaGreatJacNorms19
import Derived.Test.YtlgifofnejncpaaGreatJacNorms20
import Derived.Test.YtlgifofnejncpaaGreatJacNorms21
import Derived.Test.YtlgifofnejncpaaGreatJacNorms22
import Derived.Test.YtlgifofnejncpaaGreatJacNorms23
namespace Go.Proofs.YtlgifofnejncpaaGreat
open Go.RowKit Ex
theorem jacNorms_0_x : jacNorms_0_xs.each (fun l' => lawRunJ 4 10 200 [.q, .i, .i, .i] [(1, 4, 0)] l' jacNormsNms0 = true) ([]) := jacNorms_0_x_w0
theorem jacNorms_1_x : jacNorms_1_xs.each (fun l' => lawRunJ 4 10 200 [.q, .i, .i, .i] [(1, 4, 1)] l' jacNormsNms1 = true) ([]) := jacNorms_1_x_w0
theorem jacNorms_2_x : jacNorms_2_xs.each (fun l' => lawRunJ 4 10 200 [.q, .i, .i, .i] [(1, 4, 2)] l' jacNormsNms2 = true) ([]) := jacNorms_2_x_w0
theorem jacNorms_3_x : jacNorms_3_xs.each (fun l' => lawRunJ 4 10 200 [.q, .i, .i, .i] [(1, 4, 3)] l' jacNormsNms3 = true) ([]) := ⟨⟨⟨⟨⟨jacNorms_3_x_w0, ⟨jacNorms_3_x_w1, ⟨jacNorms_3_x_w2, jacNorms_3_x_w3⟩⟩⟩, jacNorms_3_x_w4⟩, jacNorms_3_x_w5⟩, jacNorms_3_x_w6⟩, jacNorms_3_x_w7⟩
theorem jacNorms_all : ∀ tb, tb ∈ tabs [(1, 4)] → ∀ ls, ls ∈ lensAll [] → ∃ t, tabGood 100 t = true ∧ ∃ s : Spl, s.each (fun l' => lawRunJ 4 10 200 [.q, .i, .i, .i] tb l' t = true) ls := by
  intro tb ht ls hls
  simp only [tabs, List.range, List.range.loop, List.flatMap_cons, List.flatMap_nil, List.map_cons, List.map_nil, List.append_nil, List.cons_append, List.nil_append, List.mem_cons, List.not_mem_nil, or_false] at ht
  rcases ht with rfl | rfl | rfl | rfl
  · skip
    obtain rfl : ls = [] := by simpa [lensAll] using hls
    exact ⟨jacNormsNms0, jacNormsGood0, jacNorms_0_xs, jacNorms_0_x⟩
  · skip
    obtain rfl : ls = [] := by simpa [lensAll] using hls
    exact ⟨jacNormsNms1, jacNormsGood1, jacNorms_1_xs, jacNorms_1_x⟩
  · skip
    obtain rfl : ls = [] := by simpa [lensAll] using hls
    exact ⟨jacNormsNms2, jacNormsGood2, jacNorms_2_xs, jacNorms_2_x⟩
  · skip
    obtain rfl : ls = [] := by simpa [lensAll] using hls
    exact ⟨jacNormsNms3, jacNormsGood3, jacNorms_3_xs, jacNorms_3_x⟩
theorem jacNorms_any (v0 : Value) (zs0 : List Int) (a1 : Int) (a2 : Int) (a3 : Int) (w : World) (h0 : Ints w v0 zs0) (_h1 : -9223372036854775808 ≤ a1 ∧ a1 ≤ 9223372036854775807) (_h2 : -9223372036854775808 ≤ a2 ∧ a2 ≤ 9223372036854775807) (_h3 : -9223372036854775808 ≤ a3 ∧ a3 ≤ 9223372036854775807) :
    Calls Tryz.prog 4 #[v0, .int .i64 a1, .int .i64 a2, .int .i64 a3] w fun e w' => e = .returned (.bool true) ∧ Below w.heap.size w w' := by
  refine law_ofJ (ds := [.is zs0, .i a1, .i a2, .i a3]) (nx0 := 10) (k := 200) (base := 100) (l := [(1, 4)]) (lens := []) (by simp) (by simp) (by decide) (vs := #[v0, .int .i64 a1, .int .i64 a2, .int .i64 a3]) ⟨h0, rfl, rfl, rfl, trivial⟩ fun ks hk => ?_
  have hk : ks = [.q, .i, .i, .i] := by simpa [AD.kind, shapes, shapes1] using hk
  subst hk
  exact jacNorms_all
end Go.Proofs.YtlgifofnejncpaaGreat
