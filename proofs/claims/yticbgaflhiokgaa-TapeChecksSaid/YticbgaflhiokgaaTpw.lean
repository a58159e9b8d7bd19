/-
  A tape that is handed in, whatever it is: how it lies in memory.
-/
import Derived.Test.YticbgaflhiokgaaTpb
import Derived.Test.YticbgaflhiokgaaInr
import Derived.Lib.SmallJoins
namespace Go.Proofs.Yticbgaflhiokgaa
open Go.RowKit
open Go.ChangeShapes Go.WideShapes
open Go.Joins

section
variable {H : Type} {enc : TypeId × Value → H} {P : Program} {w : World} {base : Nat} {spare : Nat → Bool} {held : Bool}
theorem trod_flt {t : TypeId} {fuel : Nat} {cs : List Value} {x : DataW H × List MemPlace} {k : FloatKind} (ht : P.underlying t = some (.float k)) (h : DataW.trod enc P w base spare held fuel t cs = some x) : ∃ b, cs = [.float k b] ∧ (Lit.float k b).wf = true := by
  cases fuel with
  | zero => simp [DataW.trod] at h
  | succ n =>
    unfold DataW.trod at h
    rw [ht] at h
    split at h <;> simp_all
end
theorem lit64 {n : Int} (h : (Lit.int .i64 n).wf = true) : -9223372036854775808 ≤ n ∧ n ≤ 9223372036854775807 := by
  have q1 : IntKind.i64.min = -9223372036854775808 := by decide
  have q2 : IntKind.i64.max = 9223372036854775807 := by decide
  simp only [Lit.wf, Bool.and_eq_true, decide_eq_true_eq] at h
  omega
/-- One operation's cells. -/
theorem op_of {H : Type} {enc : TypeId × Value → H} {W : World} {base : Nat} {sp : Nat → Bool} {n : Nat} {cs : List Value} {y : DataW H × List MemPlace} (h : DataW.trod enc Try.prog W base sp true n 32 cs = some y) :
    ∃ (k a b : Int) (c : Nat), cs = [.int .i64 k, .int .i64 a, .int .i64 b, .float .f64 c] ∧ c < 18446744073709551616 := by
  have hC : Try.prog.cellsOf 32 = 4 := by kernel_rfl
  have h3 : Try.prog.cellsOf 3 = 1 := by kernel_rfl
  have hf : Try.prog.cellsOf 30 = 1 := by kernel_rfl
  obtain ⟨y0, y1, y2, y3, m, -, hl, h0, h1, h2, h4⟩ := trod_struct4 Try.underlying32 h
  rw [hC] at hl
  match cs, hl with
  | [c0, c1, c2, c3], _ =>
    simp [h3, hf] at h0 h1 h2 h4
    obtain ⟨k, e0, -, -⟩ := DataW.trod_int Try.underlying3 h0
    obtain ⟨a, e1, -, -⟩ := DataW.trod_int Try.underlying3 h1
    obtain ⟨b, e2, -, -⟩ := DataW.trod_int Try.underlying3 h2
    obtain ⟨c, e3, hw⟩ := trod_flt Try.underlying30 h4
    simp only [List.cons.injEq, and_true] at e0 e1 e2 e3
    subst e0 e1 e2 e3
    exact ⟨k, a, b, c, rfl, by simpa [Lit.wf] using hw⟩
def opCell (w : World) (a : Addr) (i : Nat) : OpD :=
  match w.cell? (a.add (i * 4)), w.cell? (a.add (i * 4 + 1)), w.cell? (a.add (i * 4 + 2)), w.cell? (a.add (i * 4 + 3)) with
  | some (.int _ k), some (.int _ x), some (.int _ y), some (.float _ c) => ⟨k, x, y, c⟩
  | _, _, _, _ => ⟨0, 0, 0, 0⟩
/-- What a cell holds, as a whole number. -/
def intCell : Option Value → Int
  | some (.int _ k) => k
  | _ => 0
set_option maxRecDepth 100000 in
theorem tape_of {H : Type} {enc : TypeId × Value → H} {W : World} {v : Value} {d : DataW H} {ps : List MemPlace} {base : Nat}
    (hv : Value.okWide Try.prog W .any base 25 v) (h : DataW.Trod enc Try.prog W 0 (fun _ => true) true 25 v d ps) : ∃ T : TD, TapeAt W v T := by
  have hC : Try.prog.cellsOf 25 = 3 := by kernel_rfl
  have h4 : Try.prog.cellsOf 32 = 4 := by kernel_rfl
  have h1 : Try.prog.cellsOf 3 = 1 := by kernel_rfl
  obtain ⟨v0, v1, v2, y0, y1, y2, n, rfl, -, -, t0, t1, t2⟩ := open_agg3 Try.underlying25 (by kernel_rfl) hC hv h
  obtain ⟨k, e0, -, -⟩ := DataW.trod_int Try.underlying3 t0
  simp only [List.cons.injEq, and_true] at e0
  subst e0
  have hA : ∃ (len : Nat) (op : Nat → OpD), OpsAt W v1 len op := by
    rcases DataW.trod_slice Try.underlying22 t1 with ⟨e, -⟩ | ⟨a, len, cap, elems, rest, n', -, e, -, hb, hl, hm, hlen, hel, -, -⟩
    · simp only [List.cons.injEq, and_true] at e
      subst e
      exact ⟨0, fun _ => ⟨0, 0, 0, 0⟩, none, 0, rfl, by omega, fun h => by omega⟩
    · simp only [List.cons.injEq, and_true] at e
      subst e
      have key : ∀ i, i < len → ∃ (k x y : Int) (c : Nat), W.cell? (a.add (i * 4)) = some (.int .i64 k) ∧ W.cell? (a.add (i * 4 + 1)) = some (.int .i64 x) ∧ W.cell? (a.add (i * 4 + 2)) = some (.int .i64 y) ∧ W.cell? (a.add (i * 4 + 3)) = some (.float .f64 c) := fun i hi => by
        have g := hel i hi
        rw [List.getElem?_eq_getElem (by omega), h4, Option.bind_eq_some_iff] at g
        obtain ⟨cs, hcs, hy⟩ := g
        obtain ⟨k, x, y, c, rfl, -⟩ := op_of hy
        have hc := (World.cells?_some hcs).2.2
        have ad : ∀ j, (a.add (i * 4)).add j = a.add (i * 4 + j) := fun j => by
          obtain ⟨b, off, spot⟩ := a
          unfold Addr.add
          by_cases z1 : i * 4 = 0 <;> by_cases z2 : j = 0 <;> simp_all <;> omega
        have g0 := hc 0 (by omega)
        have g1 := hc 1 (by omega)
        have g2 := hc 2 (by omega)
        have g3 := hc 3 (by omega)
        rw [ad] at g0 g1 g2 g3
        exact ⟨k, x, y, c, by simpa using g0, by simpa using g1, by simpa using g2, by simpa using g3⟩
      by_cases h0 : len = 0
      · subst h0
        exact ⟨0, fun _ => ⟨0, 0, 0, 0⟩, some a, cap, rfl, by omega, fun h => by omega⟩
      · obtain ⟨k, x, y, c, q0, -⟩ := key 0 (by omega)
        obtain ⟨b, off, spot⟩ := a
        have hspot : spot = none := by simpa [Addr.add] using World.cell?_spot q0
        subst hspot
        refine ⟨len, opCell W ⟨b, off, none⟩, some ⟨b, off, none⟩, cap, rfl, by unfold maxLen at hm; omega, fun _ => ⟨b, off, rfl, ?_, fun i hi => ?_⟩⟩
        · rcases Nat.lt_or_ge b W.heap.size with g | g
          · exact g
          · exfalso
            have : W.heap[b]? = none := Array.getElem?_eq_none g
            simp [World.cell?, Addr.add, this] at q0
        · obtain ⟨k, x, y, c, q0, q1, q2, q3⟩ := key i hi
          unfold opCell
          rw [q0, q1, q2, q3]
          simp only [add_plain] at q0 q1 q2 q3
          exact ⟨q0, q1, q2, q3⟩
  obtain ⟨len, op, hA⟩ := hA
  have hB : ∃ (lo : Nat) (out : Nat → Int), IntsF W v2 lo out := by
    rcases open_ints Try.underlying23 Try.underlying3 h1 t2 with ⟨e, _⟩ | ⟨a, len', cap', zs, e, _, hl, hm, hz, _, hcell, _⟩
    · simp only [List.cons.injEq, and_true] at e
      subst e
      exact ⟨0, fun _ => 0, none, 0, rfl, by omega, fun h => by omega⟩
    · simp only [List.cons.injEq, and_true] at e
      subst e
      simp only [if_true] at hz
      by_cases h0 : len' = 0
      · subst h0
        exact ⟨0, fun _ => 0, some a, cap', rfl, by omega, fun h => by omega⟩
      · obtain ⟨b, off, spot⟩ := a
        have q0 := hcell 0 (by omega)
        have hspot : spot = none := by simpa [Addr.add] using World.cell?_spot q0
        subst hspot
        refine ⟨len', fun i => zs.getD i 0, some ⟨b, off, none⟩, cap', rfl, by unfold maxLen at hm; omega, fun _ => ⟨b, off, rfl, ?_, fun i hi => ?_⟩⟩
        · rcases Nat.lt_or_ge b W.heap.size with g | g
          · exact g
          · exfalso
            have : W.heap[b]? = none := Array.getElem?_eq_none g
            simp [World.cell?, Addr.add, this] at q0
        · rw [← add_plain]
          exact hcell i (by omega)
  obtain ⟨lo, out, hB⟩ := hB
  exact ⟨⟨k, len, op, lo, out⟩, _, _, rfl, hA, hB⟩
end Go.Proofs.Yticbgaflhiokgaa
