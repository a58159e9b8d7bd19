/-
  Numbers that are read, appended to a new slice of none.
-/
import Derived.Test.YtnlbafjmbamoeaaHv
import Derived.Maps.AppendAt
import Derived.RegionTactic
import Derived.Deep.RegionLaw
namespace Go.Proofs.Ytnlbafjmbamoeaa
open Go.RowKit
open Ieee (double)

theorem own_empty {w : World} {B H : Nat} (hH : w.heap[H]? = some (.cells #[] 32 (0, 0))) (hB : B ≤ H) : w.ownsRow B 32 1 (.slice (some ⟨H, 0, none⟩) 0 0) 0 [] :=
  ⟨by simp, .inr ⟨H, 0, #[], rfl, hB, hH, Nat.le_refl _, by unfold maxLen; omega, by simp, by simp⟩⟩
theorem run_appF (ty : TypeId) (B H n c : Nat) (p : Option Addr) (f : Nat → Nat) (w : World) (hH : w.heap[H]? = some (.cells #[] 32 (0, 0))) (hB : B ≤ H) (hr : FRow w (.slice p n c) n f) (hn : n ≤ 1000) :
    ∃ R cap w', (Builtin.append_ #[31, 31] ty #[.slice (some ⟨H, 0, none⟩) 0 0, .slice p n c]).run Try.prog w = .ok (.slice (some ⟨R, 0, none⟩) n cap) w' ∧ OwnF w' B R n cap f ∧ w.grownBy w' (some H) ∧ (R = H ∨ R = w.heap.size) := by
  obtain ⟨iF, hF, f1, f2, f3⟩ := info_parts infoF
  have ho := own_empty hH hB
  have hs : H < w.heap.size := (ho.lt H rfl).2
  obtain ⟨a, c', hv, -, har⟩ := hr
  simp only [Value.slice.injEq] at hv
  obtain ⟨rfl, -, rfl⟩ := hv
  cases p with
  | none =>
    obtain rfl : n = 0 := by
      rcases Nat.eq_zero_or_pos n with h | h
      · exact h
      · obtain ⟨b, off, e, -⟩ := har h; cases e
    refine ⟨H, 0, w, ?_, ⟨[], ho, fun j hj => by omega⟩, ⟨rfl, rfl, rfl, Nat.le_refl _, fun _ _ _ => rfl⟩, .inl rfl⟩
    simp [Builtin.append_, run_underlying Try.underlying31, sizeOf, typeInfo, hF, Builtin.lenOf, Builtin.firstCells, storeCells]
  | some ad =>
    have hys : ∃ ys : List Value, ys.length = n ∧ FVals ys n f ∧ (∀ j v, ys[j]? = some v → w.cell? (ad.add j) = some v) ∧ ∀ v ∈ ys, v.oneCell' = true := by
      rcases Nat.eq_zero_or_pos n with h | h
      · subst h; exact ⟨[], rfl, fun j hj => by omega, fun j v hv => by simp at hv, fun v hv => by simp at hv⟩
      · obtain ⟨b, off, e, hbs, hc⟩ := har h
        simp only [Option.some.injEq] at e
        subst e
        obtain ⟨ys, y1, y2, y3, y4⟩ := flts_list hc
        refine ⟨ys, y1, y2, fun j u hu => ?_, y4⟩
        have e : (⟨b, off, none⟩ : Addr).add j = ⟨b, off + j, none⟩ := by simp [Addr.add]
        rw [e]; exact y3 j u hu
    obtain ⟨ys, y1, y2, y3, y4⟩ := hys
    obtain ⟨v', w', hr, h2, h3, h4, h5⟩ := run_append_own_at (P := Try.prog) w B 31 ty 32 iF (.float .f64 0) 1 8 Try.underlying31 hF f1 f2 f3 rfl (by decide) (.slice (some ⟨H, 0, none⟩) 0 0) 0 [] ho ad n c ys (by omega) y3 y4 (by unfold maxLen; omega) (by omega) (by omega)
    rw [Nat.zero_add, List.nil_append] at h2
    rcases id h2.2 with ⟨e, -⟩ | ⟨R, cap, cur, rfl, -⟩
    · have := (h4.1 e).1; cases this
    · exact ⟨R, cap, w', hr, ⟨ys, h2, y2⟩, h3, by rcases h5 with e | e <;> simp only [Value.ownBlock, Option.some.injEq] at e <;> omega⟩
/-- As one step of a region that draws. -/
theorem step_appF {ops : Array Oper} {o : Oper} {a : Act} {w : World} {K : Act → World → Prop} {Q : Exit → Act → World → Prop} {E : Prop} (hg : o.guard = none) (s x : Operand)
    (ho : o.op = .call { callee := .builtin .append, args := #[s, x], argTypes := #[31, 31] })
    (B H n c : Nat) (p : Option Addr) (f : Nat → Nat) (w0 : World) (hs : a.eval s = .slice (some ⟨H, 0, none⟩) 0 0) (hx : a.eval x = .slice p n c)
    (hb : Below B w0 w) (hH : w.heap[H]? = some (.cells #[] 32 (0, 0))) (hB : B ≤ H) (hr : ∀ W c, Below B w0 W → FRow W (.slice p n c) n f) (hn : n ≤ 1000)
    (h : ∀ R cap w', OwnF w' B R n cap f → Below B w0 w' → (∀ k, k < w.heap.size → k ≠ H → w'.heap[k]? = w.heap[k]?) → w.heap.size ≤ w'.heap.size → (R = H ∨ R = w.heap.size) → R < w'.heap.size → K (a.put o.dst (.slice (some ⟨R, 0, none⟩) n cap)) w') :
    if Region.wanted o (yielded ops a.tmps) = true then Oper.wp Try.prog o a w K Q else E := by
  have hw : Region.wanted o (yielded ops a.tmps) = true := by simp [Region.wanted, hg]
  rw [if_pos hw]
  obtain ⟨R, cap, w', hrun, h2, h3, h4⟩ := run_appF o.type B H n c p f w hH hB (hr w c hb) hn
  have hHs : H < w.heap.size := ((own_empty hH hB).lt H rfl).2
  have hb' : Below B w0 w' := hb.grown h3 (by omega) (fun k hk => by simp only [Option.some.injEq] at hk; omega)
  unfold Oper.wp execOp
  simp only [ho, resolve, invoke, builtin, Sem.run_bind, Sem.run_pure, Result.andThen_ok, List.map_toArray, List.map_cons, List.map_nil, hs, hx, hrun]
  exact h R cap w' h2 hb' (fun k hk hne => h3.block k hk (fun e => hne (by simpa using e))) h3.size h4 h2.lt.2
end Go.Proofs.Ytnlbafjmbamoeaa
