/-
  Tables that a call makes row by row; rows copied.
-/
import Derived.Test.YtnlbafjmbamoeaaHa
import Derived.Laws.CopyOwn
namespace Go.Proofs.Ytnlbafjmbamoeaa
open Go.RowKit
open Ieee (double)

theorem infoF : (Try.prog.info? 32).map (fun i => (i.zero, i.size, i.bytes)) = some (some (.float .f64 0), 1, 8) := by kernel_rfl
theorem infoS : (Try.prog.info? 31).map (fun i => (i.zero, i.size, i.bytes)) = some (some (.slice none 0 0), 1, 24) := by kernel_rfl
theorem infoI : (Try.prog.info? 3).map (fun i => (i.zero, i.size, i.bytes)) = some (some (.int .i64 0), 1, 8) := by kernel_rfl
/-- What a slice's numbers are, as a list of cells. -/
theorem flts_list {w : World} {b off n : Nat} {f : Nat → Nat} (h : ∀ i, i < n → FCell w b (off + i) (f i)) : ∃ ys : List Value, ys.length = n ∧ (∀ j, j < n → ∃ y, ys[j]? = some (.float .f64 y) ∧ canon y = f j ∧ y < 18446744073709551616) ∧ (∀ j v, ys[j]? = some v → w.cell? ⟨b, off + j, none⟩ = some v) ∧ ∀ v ∈ ys, v.oneCell' = true := by
  have key : ∀ j, j < n → ∃ y, w.cell? ⟨b, off + j, none⟩ = some (.float .f64 y) ∧ canon y = f j ∧ y < 18446744073709551616 := fun j hj => h j hj
  have get : ∀ j, j < n → ((List.range n).map fun j => (w.cell? ⟨b, off + j, none⟩).getD (.int .i64 0))[j]? = w.cell? ⟨b, off + j, none⟩ := fun j hj => by
    obtain ⟨y, y1, -⟩ := key j hj
    rw [List.getElem?_map, List.getElem?_range hj, y1]
    simp [y1]
  refine ⟨(List.range n).map fun j => (w.cell? ⟨b, off + j, none⟩).getD (.int .i64 0), by simp, fun j hj => ?_, fun j v hv => ?_, fun v hv => ?_⟩
  · obtain ⟨y, y1, y2, y3⟩ := key j hj
    exact ⟨y, (get j hj).trans y1, y2, y3⟩
  · have hj : j < n := by
      have := (List.getElem?_eq_some_iff.1 hv).1
      simpa using this
    exact (get j hj).symm.trans hv
  · obtain ⟨j, hj⟩ := List.getElem?_of_mem hv
    have hl : j < n := by
      have := (List.getElem?_eq_some_iff.1 hj).1
      simpa using this
    obtain ⟨y, y1, -⟩ := key j hl
    rw [get j hl, y1] at hj
    cases hj
    rfl
theorem updN_const {α : Type} (c : α) (j : Nat) : updN (fun _ => c) j c = fun _ => c := by
  funext i
  unfold updN
  split <;> rfl
/-- A row that was laid over from its head on. -/
theorem ownF_spliced {w : World} {base R n : Nat} {f : Nat → Nat} {cur cs : List Value} (hb : base ≤ R) (hm : n ≤ maxLen) (hc : cur.length = n) (hl : cs.length = n) (hh : w.heap[R]? = some (.cells (splice cur 0 cs).toArray 32 (0, 0)))
    (hs : ∀ j, j < n → ∃ y, cs[j]? = some (.float .f64 y) ∧ canon y = f j ∧ y < 18446744073709551616) : OwnF w base R n n f := by
  have e : splice cur 0 cs = cs := by unfold splice; simp [hl, ← hc]
  rw [e] at hh
  exact ⟨cs, ⟨by rw [hl, Nat.mul_one], .inr ⟨R, n, cs.toArray, rfl, hb, hh, Nat.le_refl _, hm, by simp [hl], by simp [← hl]⟩⟩, hs⟩
/-- A table of which the first j rows are there. -/
structure GridP (w : World) (base G n j m : Nat) (blk cap : Nat → Nat) (f : Nat → Nat → Nat) : Prop where
  own : ∃ rs, w.ownsRow base 31 1 (.slice (some ⟨G, 0, none⟩) n n) n rs ∧ ∀ i, i < j → rs[i]? = some (.slice (some ⟨blk i, 0, none⟩) m (cap i))
  row : ∀ i, i < j → OwnF w base (blk i) m (cap i) (f i)
  inj : ∀ i k, i < j → k < j → blk i = blk k → i = k
  off : ∀ i, i < j → blk i ≠ G
theorem GridP.lt {w : World} {base G n j m : Nat} {blk cap : Nat → Nat} {f : Nat → Nat → Nat} (h : GridP w base G n j m blk cap f) : base ≤ G ∧ G < w.heap.size := by
  obtain ⟨⟨rs, h1, -⟩, -⟩ := h
  exact h1.lt G rfl
theorem GridP.grid {w : World} {base G n m : Nat} {blk cap : Nat → Nat} {f : Nat → Nat → Nat} (h : GridP w base G n n m blk cap f) : Grid w base G n m blk cap f := by
  have hl := h.lt
  obtain ⟨⟨rs, h1, h2⟩, h3, h4, h5⟩ := h
  exact ⟨fun i hi => (h1.cellAt i (by omega)).trans (h2 i hi), fun i _ => h1.frozenAt i, h3, h4, h5, hl.1, hl.2⟩
theorem ownsRow_block {w w' : World} {base R n cap : Nat} {E : TypeId} {rs : List Value} (h : w.ownsRow base E 1 (.slice (some ⟨R, 0, none⟩) n cap) n rs) (hb : w'.heap[R]? = w.heap[R]?) : w'.ownsRow base E 1 (.slice (some ⟨R, 0, none⟩) n cap) n rs := by
  obtain ⟨h1, h2⟩ := h
  refine ⟨h1, ?_⟩
  rcases h2 with ⟨h2, -⟩ | ⟨g, c, cur, hv, hg, hh, r⟩
  · cases h2
  · simp only [Value.slice.injEq, Option.some.injEq, Addr.mk.injEq] at hv
    obtain ⟨⟨rfl, -⟩, -, rfl⟩ := hv
    exact .inr ⟨_, _, cur, rfl, hg, hb.trans hh, r⟩
theorem GridP.head {w : World} {base G n j m : Nat} {blk cap : Nat → Nat} {f : Nat → Nat → Nat} (h : GridP w base G n j m blk cap f) {i : Nat} (hi : i < n) : (∃ u, w.cell? ⟨G, i, none⟩ = some u) ∧ w.frozen? ⟨G, i, none⟩ = false := by
  obtain ⟨⟨rs, h1, -⟩, -⟩ := h
  have hl := h1.1
  exact ⟨⟨_, (h1.cellAt i (by omega)).trans (List.getElem?_eq_getElem (by omega))⟩, h1.frozenAt i⟩
theorem OwnF.heap {w : World} {base R n cap : Nat} {f : Nat → Nat} (h : OwnF w base R n cap f) : ∃ cur : List Value, w.heap[R]? = some (.cells cur.toArray 32 (0, 0)) ∧ cur.length = cap ∧ n ≤ cap := by
  obtain ⟨rs, ⟨h1, h2⟩, -⟩ := h
  rcases h2 with ⟨h2, -⟩ | ⟨g, c, cur, hv, hg, hh, hn, hm, hs, -⟩
  · cases h2
  · simp only [Value.slice.injEq, Option.some.injEq, Addr.mk.injEq] at hv
    obtain ⟨⟨rfl, -⟩, -, rfl⟩ := hv
    exact ⟨cur.toList, by simpa using hh, by simpa using hs, hn⟩
theorem GridP.below {w w' : World} {base G n j m : Nat} {blk cap : Nat → Nat} {f : Nat → Nat → Nat} (h : GridP w base G n j m blk cap f) {B : Nat} (hb : Below B w w') (hG : G < B) (hB : ∀ i, i < j → blk i < B) : GridP w' base G n j m blk cap f := by
  obtain ⟨⟨rs, h1, h2⟩, h3, h4, h5⟩ := h
  exact ⟨⟨rs, ownsRow_block h1 (hb.block G hG), h2⟩, fun i hi => (h3 i hi).below hb (hB i hi), h4, h5⟩
theorem GridP.next {w : World} {base G n j m R c : Nat} {blk cap : Nat → Nat} {f : Nat → Nat → Nat} {g : Nat → Nat} (h : GridP w base G n j m blk cap f) (hj : j < n) (ho : OwnF w base R m c g) (hR : R ≠ G) (hn : ∀ i, i < j → blk i ≠ R) :
    GridP (w.setCell ⟨G, j, none⟩ (.slice (some ⟨R, 0, none⟩) m c)) base G n (j + 1) m (updN blk j R) (updN cap j c) (updN f j g) := by
  obtain ⟨⟨rs, h1, h2⟩, h3, h4, h5⟩ := h
  have hl := h1.1
  refine ⟨⟨rs.set j (.slice (some ⟨R, 0, none⟩) m c), (h1.stored j _).1, fun i hi => ?_⟩, fun i hi => ?_, fun i k hi hk => ?_, fun i hi => ?_⟩
  · by_cases e : i = j
    · subst e; rw [List.getElem?_set_self (by omega), updN_at, updN_at]
    · rw [List.getElem?_set_ne (Ne.symm e), updN_ne _ _ e, updN_ne _ _ e]; exact h2 i (by omega)
  · by_cases e : i = j
    · subst e; rw [updN_at, updN_at, updN_at]; exact ho.other (Ne.symm hR) _
    · rw [updN_ne _ _ e, updN_ne _ _ e, updN_ne _ _ e]; exact (h3 i (by omega)).other (fun q => h5 i (by omega) q.symm) _
  · by_cases e1 : i = j
    · subst e1
      by_cases e2 : k = i
      · exact fun _ => e2.symm
      · rw [updN_at, updN_ne _ _ e2]; exact fun q => absurd q.symm (hn k (by omega))
    · by_cases e2 : k = j
      · subst e2; rw [updN_at, updN_ne _ _ e1]; exact fun q => absurd q (hn i (by omega))
      · rw [updN_ne _ _ e1, updN_ne _ _ e2]; exact h4 i k (by omega) (by omega)
  · by_cases e : i = j
    · subst e; rw [updN_at]; exact hR
    · rw [updN_ne _ _ e]; exact h5 i (by omega)
theorem GridP.fill {w w' : World} {base G n j m k : Nat} {blk cap : Nat → Nat} {f : Nat → Nat → Nat} {g : Nat → Nat} (h : GridP w base G n j m blk cap f) (hk : k < j) (hG : w'.heap[G]? = w.heap[G]?) (hw : ∀ i, i < j → i ≠ k → w'.heap[blk i]? = w.heap[blk i]?) (ho : OwnF w' base (blk k) m (cap k) g) : GridP w' base G n j m blk cap (updN f k g) := by
  obtain ⟨⟨rs, h1, h2⟩, h3, h4, h5⟩ := h
  refine ⟨⟨rs, ownsRow_block h1 hG, h2⟩, fun i hi => ?_, h4, h5⟩
  by_cases e : i = k
  · subst e; rw [updN_at]; exact ho
  · rw [updN_ne _ _ e]; exact (h3 i hi).kept (hw i hi e)
theorem GridP.congr {w : World} {base G n j m : Nat} {blk cap : Nat → Nat} {f g : Nat → Nat → Nat} (h : GridP w base G n j m blk cap f) (e : ∀ i k, i < j → k < m → f i k = g i k) : GridP w base G n j m blk cap g :=
  ⟨h.own, fun i hi => (h.row i hi).congr (fun k hk => e i k hi hk), h.inj, h.off⟩
theorem ownF_made {w : World} {base R n : Nat} (h : w.ownsRow base 32 1 (.slice (some ⟨R, 0, none⟩) n n) n (madeCells #[Value.float .f64 0] n).toList) : OwnF w base R n n fun _ => 0 := by
  refine ⟨_, h, fun j hj => ⟨0, ?_, rfl, by decide⟩⟩
  have e : (madeCells #[Value.float .f64 0] n).toList = List.replicate n (.float .f64 0) := toList_madeCells_one _ _
  rw [e, List.getElem?_replicate, if_pos hj]
end Go.Proofs.Ytnlbafjmbamoeaa
