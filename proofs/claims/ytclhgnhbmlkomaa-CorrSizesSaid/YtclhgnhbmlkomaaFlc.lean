/-
  A slice of floats that is handed in: its floats, and what room there is.
-/
import Derived.Test.YtclhgnhbmlkomaaFls
namespace Go.Proofs.Ytclhgnhbmlkomaa
open Go.RowKit
open Go.ChangeShapes Go.WideShapes

/-- Floats that are handed in, no more than there is room for. -/
def Fltc (w : World) (v : Value) (zs : List Nat) : Prop := Flts w v zs ∧ ∃ a c, v = .slice a zs.length c ∧ zs.length ≤ c
set_option maxRecDepth 100000 in
theorem fltc_of {H : Type} {enc : TypeId × Value → H} {W : World} {v : Value} {d : DataW H} {ps : List MemPlace} {base : Nat}
    (hv : Value.okWide Try.prog W .any base 31 v) (h : DataW.Trod enc Try.prog W 0 (fun _ => true) true 31 v d ps) : ∃ zs, Fltc W v zs := by
  have hc : Try.prog.cellsOf 32 = 1 := by kernel_rfl
  obtain ⟨a0, len, cap, rfl⟩ := okWide_slice Try.underlying31 hv
  obtain ⟨fuel, hf⟩ := h
  rcases open_flts Try.underlying31 Try.underlying32 hc hf with hcs | ⟨a, len', cap', hcs, hl, hm, hcell⟩
  · simp [Value.cells] at hcs
    obtain ⟨rfl, rfl, rfl⟩ := hcs
    exact ⟨[], .inl ⟨none, 0, rfl, rfl⟩, none, 0, rfl, Nat.le_refl _⟩
  · simp [Value.cells] at hcs
    obtain ⟨rfl, rfl, rfl⟩ := hcs
    by_cases h0 : len = 0
    · subst h0; exact ⟨[], .inl ⟨_, _, rfl, rfl⟩, _, _, rfl, Nat.zero_le _⟩
    · obtain ⟨b, off, spot⟩ := a
      have hspot : spot = none := by
        obtain ⟨x, hx, -⟩ := hcell 0 (by omega)
        simpa [Addr.add] using World.cell?_spot hx
      subst hspot
      have hlen : ((List.range len).map fun i => fltCell (W.cell? (Addr.add ⟨b, off, none⟩ i))).length = len := by simp
      refine ⟨(List.range len).map fun i => fltCell (W.cell? (Addr.add ⟨b, off, none⟩ i)), .inr ⟨b, off, cap, by rw [hlen], ?_, ?_, ?_⟩, _, cap, by rw [hlen], by rw [hlen]; exact hl⟩
      · obtain ⟨x, hx, -⟩ := hcell 0 (by omega)
        rcases Nat.lt_or_ge b W.heap.size with g | g
        · exact g
        · exfalso
          have : W.heap[b]? = none := Array.getElem?_eq_none g
          simp [World.cell?, Addr.add, this] at hx
      · rw [hlen]; unfold maxLen at hm; omega
      · intro i hi
        rw [hlen] at hi
        obtain ⟨x, hx, hw⟩ := hcell i hi
        have e : ((List.range len).map fun i => fltCell (W.cell? (Addr.add ⟨b, off, none⟩ i))).getD i 0 = x := by
          simp [List.getD, hi, hx, fltCell]
        rw [e]
        exact ⟨by simpa [Lit.wf] using hw, by rw [← add_plain]; exact hx⟩
end Go.Proofs.Ytclhgnhbmlkomaa
