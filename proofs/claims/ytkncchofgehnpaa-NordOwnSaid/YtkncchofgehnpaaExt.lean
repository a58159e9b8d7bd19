/-
  The runner beside Go's machine: laws of which slices of whole numbers are handed in.
-/
import Derived.Test.YtkncchofgehnpaaExs
import Derived.Test.YtkncchofgehnpaaRows
import Derived.KernelRfl
import Derived.ChangeSlices
namespace Go.Proofs.Ytkncchofgehnpaa
open Go.RowKit

/-- A slice that reads as these whole numbers. -/
def Ints (w : World) (v : Value) (zs : List Int) : Prop :=
  (∃ o cap, v = .slice o 0 cap ∧ zs = []) ∨ ∃ b off cap, v = .slice (some ⟨b, off, none⟩) zs.length cap ∧ b < w.heap.size ∧ zs.length ≤ 9223372036854775807 ∧ (∀ i, i < zs.length → w.cell? ⟨b, off + i, none⟩ = some (.int .i64 (zs.getD i 0)))

open Go.ChangeShapes Go.WideShapes in
theorem ints_of {H : Type} {enc : TypeId × Value → H} {W : World} {v : Value} {d : DataW H} {ps : List MemPlace} {base : Nat}
    (hv : Value.okWide Try.prog W .any base 22 v) (h : DataW.Trod enc Try.prog W 0 (fun _ => true) true 22 v d ps) : ∃ zs, Ints W v zs := by
  have hc : Try.prog.cellsOf 3 = 1 := by kernel_rfl
  obtain ⟨a0, len, cap, rfl⟩ := okWide_slice Try.underlying22 hv
  obtain ⟨fuel, hf⟩ := h
  rcases open_ints Try.underlying22 Try.underlying3 hc hf with ⟨hcs, _⟩ | ⟨a, len', cap', zs, hcs, _, hl, hm, hz, _, hcell, _⟩
  · simp [Value.cells] at hcs
    obtain ⟨rfl, rfl, rfl⟩ := hcs
    exact ⟨[], .inl ⟨none, 0, rfl, rfl⟩⟩
  · simp [Value.cells] at hcs
    obtain ⟨rfl, rfl, rfl⟩ := hcs
    simp only [if_true] at hz
    by_cases h0 : len = 0
    · subst h0; exact ⟨[], .inl ⟨_, _, rfl, rfl⟩⟩
    · obtain ⟨b, off, spot⟩ := a
      have hspot : spot = none := by simpa [Addr.add] using World.cell?_spot (hcell 0 (by omega))
      subst hspot
      have hlen : (zs.take len).length = len := by simp; omega
      refine ⟨zs.take len, .inr ⟨b, off, cap, by rw [hlen], ?_, ?_, ?_⟩⟩
      · have h0 := hcell 0 (by omega)
        rcases Nat.lt_or_ge b W.heap.size with g | g
        · exact g
        · exfalso
          have : W.heap[b]? = none := Array.getElem?_eq_none g
          simp [World.cell?, Addr.add, this] at h0
      · rw [hlen]; unfold maxLen at hm; omega
      · intro i hi
        rw [hlen] at hi
        rw [← add_plain, hcell i (by omega)]
        simp [List.getD, hi]



namespace Ex
open Go
variable {P : Program} {V : Val}
/-- A call of which things are handed in that lie in memory. -/
theorem run_lawI (hm : P.follows .mixedOrders = true) (hname : ∀ (f : Nat) (fn : Func), P.funcs[f]? = some fn → (fn.name == "runtime.NumGoroutine") = false) {g : Gam} (hgm : GamOK V g) {ctr : Ctr} (hctr : CtrOK P V ctr) {fuel n f nx0 : Nat} {args : List SV}
    (h : good (xcall P ctr g fuel n f args .nil nx0) = true) {ρ : Rho} (hρ : ∀ b, nx0 ≤ b → ρ b = none) {vs : Array Value} {w : World} (hargs : All2 (VR V ρ) args vs.toList) (hl : Laid V ρ w) :
    Calls P f vs w fun e w' => e = .returned (.bool true) ∧ Go.RowKit.Below w.heap.size w w' := by
  obtain ⟨hp, nx, e⟩ := good_ok h
  refine ((xcall_ok hm hname hgm hctr fuel n f args .nil nx0 _ hp nx e).2.2 ρ vs w hargs (hr_laid hl) fun b hb _ => hρ b hb).mono fun e w' ⟨rv, ρ', he, hst⟩ => ?_
  have : rv = .bool true := hst.val
  subst this
  exact ⟨he, below_of hst⟩

/-- Where the first thing that was handed in lies. -/
def rho1 (b off : Nat) : Rho := fun i => if i = 0 then some (b, off, 0, some 0) else none
def arr1 (zs : List Int) : Nat → Array Value := fun i => if i = 0 then intsArr zs else #[]
theorem ints_arg {w : World} {v : Value} {zs : List Int} (hz : Ints w v zs) : (∃ o c, v = .slice o 0 c) ∨ ∃ b off, ∀ (V : Val), V.arr = arr1 zs → VR V (rho1 b off) (.c (.qi 0 0)) v ∧ Laid V (rho1 b off) w := by
  rcases hz with ⟨o, c, rfl, -⟩ | ⟨b, off, cap, rfl, hb, -, hc⟩
  · exact .inl ⟨o, c, rfl⟩
  · refine .inr ⟨b, off, fun V hV => ⟨⟨(b, off, 0, some 0), cap, rfl, rfl, by rw [hV]; simp [arr1, intsArr], fun i x hx => ?_⟩, fun b' q j h1 h2 => ?_⟩⟩
    · rw [hV] at hx
      simp only [arr1, if_true, intsArr] at hx
      rw [List.getElem?_toArray, List.getElem?_map] at hx
      cases hz : zs[i]? with
      | none => rw [hz] at hx; cases hx
      | some n => rw [hz] at hx; simp only [Option.map_some, Option.some.injEq] at hx; exact ⟨n, hx.symm⟩
    · unfold rho1 at h1
      split at h1
      · simp only [Option.some.injEq] at h1
        subst h1
        simp only [Option.some.injEq] at h2
        subst h2
        refine ⟨hb, fun i v hv => ?_⟩
        rw [hV] at hv
        simp only [arr1, if_true, intsArr] at hv
        rw [List.getElem?_toArray, List.getElem?_map] at hv
        cases hz : zs[i]? with
        | none => rw [hz] at hv; cases hv
        | some n =>
          rw [hz] at hv; simp only [Option.map_some, Option.some.injEq] at hv
          have hlt : i < zs.length := by
            rcases Nat.lt_or_ge i zs.length with q | q
            · exact q
            · rw [List.getElem?_eq_none q] at hz; cases hz
          rw [hc i hlt, ← hv]
          simp [List.getD, hz]
      · cases h1
end Ex
end Go.Proofs.Ytkncchofgehnpaa
