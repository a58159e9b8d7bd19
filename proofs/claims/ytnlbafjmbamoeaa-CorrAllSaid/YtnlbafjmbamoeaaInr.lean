/-
  A slice of whole numbers that is handed in: its numbers, in their range.
-/
import Derived.Test.YtnlbafjmbamoeaaIn0
import Derived.WalkKit
import Derived.OpenShut
import Derived.Carry
namespace Go.Proofs.Ytnlbafjmbamoeaa
open Go.RowKit

/-- Whole numbers that are handed in, each in its range. -/
def Intr (w : World) (v : Value) (zs : List Int) : Prop := Ints w v zs ∧ ∀ i, i < zs.length → -9223372036854775808 ≤ zs.getD i 0 ∧ zs.getD i 0 ≤ 9223372036854775807
open Go.ChangeShapes Go.WideShapes in
set_option maxRecDepth 100000 in
theorem intr_of {H : Type} {enc : TypeId × Value → H} {W : World} {v : Value} {d : DataW H} {ps : List MemPlace} {base : Nat}
    (hv : Value.okWide Try.prog W .any base 22 v) (h : DataW.Trod enc Try.prog W 0 (fun _ => true) true 22 v d ps) : ∃ zs, Intr W v zs := by
  have hc : Try.prog.cellsOf 3 = 1 := by kernel_rfl
  obtain ⟨a0, len, cap, rfl⟩ := okWide_slice Try.underlying22 hv
  obtain ⟨fuel, hf⟩ := h
  rcases open_ints Try.underlying22 Try.underlying3 hc hf with ⟨hcs, _⟩ | ⟨a, len', cap', zs, hcs, _, hl, hm, hz, _, hcell, hwf⟩
  · simp [Value.cells] at hcs
    obtain ⟨rfl, rfl, rfl⟩ := hcs
    exact ⟨[], .inl ⟨none, 0, rfl, rfl⟩, fun i hi => by simp at hi⟩
  · simp [Value.cells] at hcs
    obtain ⟨rfl, rfl, rfl⟩ := hcs
    simp only [if_true] at hz
    by_cases h0 : len = 0
    · subst h0; exact ⟨[], .inl ⟨_, _, rfl, rfl⟩, fun i hi => by simp at hi⟩
    · obtain ⟨b, off, spot⟩ := a
      have hspot : spot = none := by simpa [Addr.add] using World.cell?_spot (hcell 0 (by omega))
      subst hspot
      have hlen : (zs.take len).length = len := by simp; omega
      refine ⟨zs.take len, .inr ⟨b, off, cap, by rw [hlen], ?_, ?_, ?_⟩, fun i hi => ?_⟩
      · have h0 := hcell 0 (by omega)
        rcases Nat.lt_or_ge b W.heap.size with g | g
        · exact g
        · exfalso
          have : W.heap[b]? = none := Array.getElem?_eq_none g
          simp [World.cell?, Addr.add, this] at h0
      · rw [hlen]; unfold maxLen at hm; omega
      · intro i hi
        rw [hlen] at hi
        rw [← add_plain, hcell i (by omega)]
        simp [List.getD, hi]
      · rw [hlen] at hi
        have hiz : i < zs.length := by rw [hz]; omega
        have hm2 := hwf (zs.getD i 0) (by simp [List.getD, hiz])
        have e : (zs.take len).getD i 0 = zs.getD i 0 := by simp [List.getD, hi]
        rw [e]
        have q1 : IntKind.i64.min = -9223372036854775808 := by decide
        have q2 : IntKind.i64.max = 9223372036854775807 := by decide
        simp only [Lit.wf, Bool.and_eq_true, decide_eq_true_eq] at hm2
        omega
end Go.Proofs.Ytnlbafjmbamoeaa
