/-
  'ModelRanges': whatever it is given.
-/
import Derived.Test.YtmmpgglbeaofkaaModelRanges0
namespace Go.Proofs.Ytmmpgglbeaofkaa
open Go.RowKit Ex
theorem modelRanges_all : ∀ tb, tb ∈ tabs [] → ∀ ls, ls ∈ lensAll [] → ∃ t, tabGood 100 t = true ∧ ∃ T TS N Q QE, trisOK t [] T = true ∧ tssOK t T TS = true ∧ numsOK t N = true ∧ quasOK t [] Q = true ∧ qesOK t Q QE = true ∧ ∃ ms, AllMem (memRun tb ls t) ms ∧ lawRunS 10 10 200 [.q, .i, .i] tb ls t TS N QE ms = true := by
  intro tb ht ls hls
  obtain rfl : tb = [] := by simpa [tabs] using ht
  obtain rfl : ls = [] := by simpa [lensAll] using hls
  exact ⟨rN0, rG0, rx_xT, rx_xTS, rx_xN, rx_xQ, rx_xQE, rx_xa, rx_xb, rx_xn, rx_xc, rx_xd, rx_xms, rx_xmo, rx_x⟩
theorem modelRanges_any (v0 : Value) (zs0 : List Int) (a1 : Int) (a2 : Int) (w : World) (h0 : Ints w v0 zs0) (_h1 : -9223372036854775808 ≤ a1 ∧ a1 ≤ 9223372036854775807) (_h2 : -9223372036854775808 ≤ a2 ∧ a2 ≤ 9223372036854775807) :
    Calls Try.prog 10 #[v0, .int .i64 a1, .int .i64 a2] w fun e w' => e = .returned (.bool true) ∧ Below w.heap.size w w' := by
  refine law_ofS (ds := [.is zs0, .i a1, .i a2]) (nx0 := 10) (k := 200) (base := 100) (l := []) (lens := []) (by simp) (by simp) (by decide) (vs := #[v0, .int .i64 a1, .int .i64 a2]) ⟨h0, rfl, rfl, trivial⟩ fun ks hk => ?_
  have hk : ks = [.q, .i, .i] := by simpa [AD.kind, shapes, shapes1] using hk
  subst hk
  exact modelRanges_all
end Go.Proofs.Ytmmpgglbeaofkaa
