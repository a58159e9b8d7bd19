/-
  'LinLeft': whatever it is given.
-/
import Derived.Test.YtainodgbcpkipaaLinLeft0
import Derived.Test.YtainodgbcpkipaaLinLeft1
import Derived.Test.YtainodgbcpkipaaLinLeft2
import Derived.Test.YtainodgbcpkipaaLinLeft3
namespace Go.Proofs.Ytainodgbcpkipaa
open Go.RowKit Ex
theorem linLeft_all : ∀ tb, tb ∈ tabs [(2, 4)] → ∀ ls, ls ∈ lensAll [] → ∃ t, tabGood 100 t = true ∧ ∃ T TS N Q QE, trisOK t [] T = true ∧ tssOK t T TS = true ∧ numsOK t N = true ∧ quasOK t [] Q = true ∧ qesOK t Q QE = true ∧ ∃ ms, AllMem (memRun tb ls t) ms ∧ lawRunS 7 10 200 [.q, .q, .i] tb ls t TS N QE ms = true := by
  intro tb ht ls hls
  simp only [tabs, List.range, List.range.loop, List.flatMap_cons, List.flatMap_nil, List.map_cons, List.map_nil, List.append_nil, List.cons_append, List.nil_append, List.mem_cons, List.not_mem_nil, or_false] at ht
  rcases ht with rfl | rfl | rfl | rfl
  · skip
    obtain rfl : ls = [] := by simpa [lensAll] using hls
    exact ⟨lN0, lG0, l0_xT, l0_xTS, l0_xN, l0_xQ, l0_xQE, l0_xa, l0_xb, l0_xn, l0_xc, l0_xd, l0_xms, l0_xmo, l0_x⟩
  · skip
    obtain rfl : ls = [] := by simpa [lensAll] using hls
    exact ⟨lN1, lG1, l1_xT, l1_xTS, l1_xN, l1_xQ, l1_xQE, l1_xa, l1_xb, l1_xn, l1_xc, l1_xd, l1_xms, l1_xmo, l1_x⟩
  · skip
    obtain rfl : ls = [] := by simpa [lensAll] using hls
    exact ⟨lN2, lG2, l2_xT, l2_xTS, l2_xN, l2_xQ, l2_xQE, l2_xa, l2_xb, l2_xn, l2_xc, l2_xd, l2_xms, l2_xmo, l2_x⟩
  · skip
    obtain rfl : ls = [] := by simpa [lensAll] using hls
    exact ⟨lN3, lG3, l3_xT, l3_xTS, l3_xN, l3_xQ, l3_xQE, l3_xa, l3_xb, l3_xn, l3_xc, l3_xd, l3_xms, l3_xmo, l3_x⟩
theorem linLeft_any (v0 : Value) (zs0 : List Int) (v1 : Value) (zs1 : List Int) (a2 : Int) (w : World) (h0 : Ints w v0 zs0) (h1 : Ints w v1 zs1) (_h2 : -9223372036854775808 ≤ a2 ∧ a2 ≤ 9223372036854775807) :
    Calls Try.prog 7 #[v0, v1, .int .i64 a2] w fun e w' => e = .returned (.bool true) ∧ Below w.heap.size w w' := by
  refine law_ofS (ds := [.is zs0, .is zs1, .i a2]) (nx0 := 10) (k := 200) (base := 100) (l := [(2, 4)]) (lens := []) (by simp) (by simp) (by decide) (vs := #[v0, v1, .int .i64 a2]) ⟨h0, h1, rfl, trivial⟩ fun ks hk => ?_
  have hk : ks = [.q, .q, .i] := by simpa [AD.kind, shapes, shapes1] using hk
  subst hk
  exact linLeft_all
end Go.Proofs.Ytainodgbcpkipaa
