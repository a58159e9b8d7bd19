/-
  A slice of floats that is handed in: its floats.
-/
import Derived.Test.YtclhgnhbmlkomaaGl
namespace Go.Proofs.Ytclhgnhbmlkomaa
open Go.RowKit
open Go.ChangeShapes Go.WideShapes

section
variable {H : Type} {enc : TypeId × Value → H} {P : Program} {w : World} {base : Nat} {spare : Nat → Bool} {held : Bool}
theorem trod_float1 {t : TypeId} {fuel : Nat} {cs : List Value} {x : DataW H × List MemPlace} {k : FloatKind} (ht : P.underlying t = some (.float k)) (h : DataW.trod enc P w base spare held fuel t cs = some x) : ∃ b, cs = [.float k b] ∧ (Lit.float k b).wf = true := by
  cases fuel with
  | zero => simp [DataW.trod] at h
  | succ n =>
    unfold DataW.trod at h
    rw [ht] at h
    split at h <;> simp_all
def fltCell : Option Value → Nat
  | some (.float _ b) => b
  | _ => 0
theorem open_flts {t e : TypeId} {fuel : Nat} {cs : List Value} {x : DataW H × List MemPlace} (ht : P.underlying t = some (.slice e)) (he : P.underlying e = some (.float .f64)) (hc : P.cellsOf e = 1)
    (h : DataW.trod enc P w base spare held fuel t cs = some x) :
    (cs = [.slice none 0 0]) ∨ ∃ (a : Addr) (len cap : Nat), cs = [.slice (some a) len cap] ∧ len ≤ cap ∧ cap ≤ maxLen ∧ ∀ i, i < len → ∃ b, w.cell? (a.add i) = some (.float .f64 b) ∧ (Lit.float .f64 b).wf = true := by
  rcases DataW.trod_slice ht h with h0 | ⟨a, len, cap, elems, rest, n, _, rfl, rfl, hb, hl, hm, hlen, hel, hsp, hns⟩
  · exact .inl h0.1
  refine .inr ⟨a, len, cap, rfl, hl, hm, fun i hi => ?_⟩
  have h1 := hel i hi
  rw [List.getElem?_eq_getElem (by omega), hc, Nat.mul_one, Option.bind_eq_some_iff] at h1
  obtain ⟨cs', hcs, hy⟩ := h1
  obtain ⟨b, rfl, hw⟩ := trod_float1 he hy
  exact ⟨b, cell_of_cells?_one hcs, hw⟩
end
set_option maxRecDepth 100000 in
theorem flts_of {H : Type} {enc : TypeId × Value → H} {W : World} {v : Value} {d : DataW H} {ps : List MemPlace} {base : Nat}
    (hv : Value.okWide Try.prog W .any base 31 v) (h : DataW.Trod enc Try.prog W 0 (fun _ => true) true 31 v d ps) : ∃ zs, Flts W v zs := by
  have hc : Try.prog.cellsOf 32 = 1 := by kernel_rfl
  obtain ⟨a0, len, cap, rfl⟩ := okWide_slice Try.underlying31 hv
  obtain ⟨fuel, hf⟩ := h
  rcases open_flts Try.underlying31 Try.underlying32 hc hf with hcs | ⟨a, len', cap', hcs, hl, hm, hcell⟩
  · simp [Value.cells] at hcs
    obtain ⟨rfl, rfl, rfl⟩ := hcs
    exact ⟨[], .inl ⟨none, 0, rfl, rfl⟩⟩
  · simp [Value.cells] at hcs
    obtain ⟨rfl, rfl, rfl⟩ := hcs
    by_cases h0 : len = 0
    · subst h0; exact ⟨[], .inl ⟨_, _, rfl, rfl⟩⟩
    · obtain ⟨b, off, spot⟩ := a
      have hspot : spot = none := by
        obtain ⟨x, hx, -⟩ := hcell 0 (by omega)
        simpa [Addr.add] using World.cell?_spot hx
      subst hspot
      have hlen : ((List.range len).map fun i => fltCell (W.cell? (Addr.add ⟨b, off, none⟩ i))).length = len := by simp
      refine ⟨(List.range len).map fun i => fltCell (W.cell? (Addr.add ⟨b, off, none⟩ i)), .inr ⟨b, off, cap, by rw [hlen], ?_, ?_, ?_⟩⟩
      · obtain ⟨x, hx, -⟩ := hcell 0 (by omega)
        rcases Nat.lt_or_ge b W.heap.size with g | g
        · exact g
        · exfalso
          have : W.heap[b]? = none := Array.getElem?_eq_none g
          simp [World.cell?, Addr.add, this] at hx
      · rw [hlen]; unfold maxLen at hm; omega
      · intro i hi
        rw [hlen] at hi
        obtain ⟨x, hx, hw⟩ := hcell i hi
        have e : ((List.range len).map fun i => fltCell (W.cell? (Addr.add ⟨b, off, none⟩ i))).getD i 0 = x := by
          simp [List.getD, hi, hx, fltCell]
        rw [e]
        exact ⟨by simpa [Lit.wf] using hw, by rw [← add_plain]; exact hx⟩
end Go.Proofs.Ytclhgnhbmlkomaa
