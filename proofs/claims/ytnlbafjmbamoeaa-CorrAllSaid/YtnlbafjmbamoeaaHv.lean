/-
  Rows and tables that are grown by append.
-/
import Derived.Test.YtnlbafjmbamoeaaHi
import Derived.WalkKit
namespace Go.Proofs.Ytnlbafjmbamoeaa
open Go.RowKit
open Ieee (double)

/-- These cells are these numbers. -/
def FVals (qs : List Value) (n : Nat) (f : Nat → Nat) : Prop := ∀ j, j < n → ∃ y, qs[j]? = some (.float .f64 y) ∧ canon y = f j ∧ y < 18446744073709551616
theorem FVals.app {qs : List Value} {n y : Nat} {f : Nat → Nat} (h : FVals qs n f) (hl : qs.length = n) (h1 : canon y = f n) (h2 : y < 18446744073709551616) : FVals (qs ++ [.float .f64 y]) (n + 1) f := fun j hj => by
  by_cases e : j = n
  · subst e
    exact ⟨y, by rw [List.getElem?_append_right (by omega), hl]; simp, h1, h2⟩
  · rw [List.getElem?_append_left (by omega)]
    exact h j (by omega)
theorem FVals.nil (f : Nat → Nat) (qs : List Value) : FVals qs 0 f := fun j hj => by omega
theorem FVals.own {w : World} {base n : Nat} {v : Value} {qs : List Value} {f : Nat → Nat} (h : FVals qs n f) (ho : w.ownsRow base 32 1 v n qs) (h0 : 0 < n) : ∃ R cap, v = .slice (some ⟨R, 0, none⟩) n cap ∧ OwnF w base R n cap f := by
  rcases id ho.2 with ⟨rfl, rfl⟩ | ⟨g, cap, cur, rfl, -⟩
  · omega
  · exact ⟨g, cap, rfl, qs, ho, h⟩
/-- These cells are these whole numbers. -/
def IVals (qs : List Value) (n : Nat) (f : Nat → Int) : Prop := ∀ j, j < n → qs[j]? = some (.int .i64 (f j))
theorem IVals.app {qs : List Value} {n : Nat} {f : Nat → Int} (h : IVals qs n f) (hl : qs.length = n) {y : Int} (h1 : y = f n) : IVals (qs ++ [.int .i64 y]) (n + 1) f := fun j hj => by
  by_cases e : j = n
  · subst e; rw [List.getElem?_append_right (by omega), hl]; simp [h1]
  · rw [List.getElem?_append_left (by omega)]; exact h j (by omega)
theorem IVals.nil (f : Nat → Int) (qs : List Value) : IVals qs 0 f := fun j hj => by omega
theorem IVals.own {w : World} {base n : Nat} {v : Value} {qs : List Value} {f : Nat → Int} (h : IVals qs n f) (ho : w.ownsRow base 3 1 v n qs) (h0 : 0 < n) : ∃ R cap, v = .slice (some ⟨R, 0, none⟩) n cap ∧ OwnI w base R n cap f := by
  rcases id ho.2 with ⟨rfl, rfl⟩ | ⟨g, cap, cur, rfl, -⟩
  · omega
  · exact ⟨g, cap, rfl, qs, ho, h⟩
theorem own_drewN {w : World} {base n size : Nat} {E : TypeId} {v : Value} {qs : List Value} (h : w.ownsRow base E size v n qs) (k : Nat) : (w.drewN k).ownsRow base E size v n qs := h
theorem own_slice1 {w : World} {base n size : Nat} {E : TypeId} {v : Value} {qs : List Value} (h : w.ownsRow base E size v n qs) : ∃ a cap, v = .slice a n cap := by
  rcases id h.2 with ⟨rfl, rfl⟩ | ⟨g, cap, cur, rfl, -⟩
  · exact ⟨_, _, rfl⟩
  · exact ⟨_, _, rfl⟩
theorem own_kept {w w' : World} {base n size : Nat} {E : TypeId} {v : Value} {qs : List Value} (h : w.ownsRow base E size v n qs) (hb : ∀ k, v.ownBlock = some k → w'.heap[k]? = w.heap[k]?) : w'.ownsRow base E size v n qs := by
  obtain ⟨h1, h2⟩ := h
  refine ⟨h1, ?_⟩
  rcases h2 with h2 | ⟨g, c, cur, rfl, hg, hh, r⟩
  · exact .inl h2
  · exact .inr ⟨g, c, cur, rfl, hg, (hb g rfl).trans hh, r⟩
theorem own_base {w : World} {base b' n size : Nat} {E : TypeId} {v : Value} {qs : List Value} (h : w.ownsRow base E size v n qs) (hb : b' ≤ base) : w.ownsRow b' E size v n qs := by
  obtain ⟨h1, h2⟩ := h
  refine ⟨h1, ?_⟩
  rcases h2 with h2 | ⟨g, c, cur, rfl, hg, r⟩
  · exact .inl h2
  · exact .inr ⟨g, c, cur, rfl, Nat.le_trans hb hg, r⟩
theorem below_grown {w w' : World} {B base n size : Nat} {E : TypeId} {v : Value} {qs : List Value} (h : w.ownsRow base E size v n qs) (hb : B ≤ base) (hs : B ≤ w.heap.size) (hg : w.grownBy w' v.ownBlock) : Below B w w' :=
  (Below.refl _ _).grown hg hs fun k hk => Nat.le_trans hb (h.lt k hk).1
theorem news1 (w : World) (v : Value) (t : TypeId) (k : Nat) : ∀ j u, ([v] : List Value)[j]? = some u → ((w.alloc (.cells #[v] t)).drewN k).cell? ((⟨w.heap.size, 0, none⟩ : Addr).add j) = some u := fun j u hu => by
  cases j with
  | zero =>
    simp only [List.getElem?_cons_zero, Option.some.injEq] at hu
    subst hu
    show (w.alloc _).cell? _ = _
    have e : (⟨w.heap.size, 0, none⟩ : Addr).add 0 = ⟨w.heap.size, 0, none⟩ := by simp [Addr.add]
    rw [e, World.cell?_alloc_new]
    rfl
  | succ j => simp at hu
theorem size_alloc (w : World) (o : Obj) (k : Nat) {B : Nat} (h : B ≤ w.heap.size) : B ≤ ((w.alloc o).drewN k).heap.size := by
  show B ≤ (w.alloc o).heap.size
  simp
  omega
/-- A table of which j rows have been appended. -/
structure GridV (w : World) (base : Nat) (va : Value) (j m : Nat) (blk cap : Nat → Nat) (f : Nat → Nat → Nat) : Prop where
  own : ∃ rs, w.ownsRow base 31 1 va j rs ∧ ∀ i, i < j → rs[i]? = some (.slice (some ⟨blk i, 0, none⟩) m (cap i))
  row : ∀ i, i < j → OwnF w base (blk i) m (cap i) (f i)
  inj : ∀ i k, i < j → k < j → blk i = blk k → i = k
  off : ∀ i, i < j → va.ownBlock ≠ some (blk i)
theorem GridV.start (w : World) (base m : Nat) (f : Nat → Nat → Nat) : GridV w base (.slice none 0 0) 0 m (fun _ => 0) (fun _ => 0) f :=
  ⟨⟨[], World.ownsRow_nil _ _ _ _, fun i hi => by omega⟩, fun i hi => by omega, fun i k hi => by omega, fun i hi => by omega⟩
theorem GridV.grid {w : World} {base n m : Nat} {va : Value} {blk cap : Nat → Nat} {f : Nat → Nat → Nat} (h : GridV w base va n m blk cap f) (h0 : 0 < n) : ∃ G c, va = .slice (some ⟨G, 0, none⟩) n c ∧ Grid w base G n m blk cap f := by
  obtain ⟨⟨rs, h1, h2⟩, h3, h4, h5⟩ := h
  rcases id h1.2 with ⟨rfl, rfl⟩ | ⟨g, c, cur, rfl, -⟩
  · omega
  · have hl := h1.lt g rfl
    exact ⟨g, c, rfl, fun i hi => (h1.cellAt i (by omega)).trans (h2 i hi), fun i _ => h1.frozenAt i, h3, h4, fun i hi e => h5 i hi (by rw [e]; rfl), hl.1, hl.2⟩
theorem GridV.below {w w' : World} {base j m : Nat} {va : Value} {blk cap : Nat → Nat} {f : Nat → Nat → Nat} (h : GridV w base va j m blk cap f) (hb : Below w.heap.size w w') : GridV w' base va j m blk cap f := by
  obtain ⟨⟨rs, h1, h2⟩, h3, h4, h5⟩ := h
  exact ⟨⟨rs, own_kept h1 (fun k hk => hb.block k (h1.lt k hk).2), h2⟩, fun i hi => (h3 i hi).below hb (h3 i hi).lt.2, h4, h5⟩
/-- What lies below H stays while blocks from H on are written. -/
theorem GridV.keep {w w' : World} {base H j m : Nat} {va : Value} {blk cap : Nat → Nat} {f : Nat → Nat → Nat} (h : GridV w base va j m blk cap f) (hb : Below H w w') (h1 : ∀ k, va.ownBlock = some k → k < H) (h2 : ∀ i, i < j → blk i < H) : GridV w' base va j m blk cap f := by
  obtain ⟨⟨rs, g1, g2⟩, h3, h4, h5⟩ := h
  exact ⟨⟨rs, own_kept g1 (fun k hk => hb.block k (h1 k hk)), g2⟩, fun i hi => (h3 i hi).below hb (h2 i hi), h4, h5⟩
theorem GridV.lt {w : World} {base j m : Nat} {va : Value} {blk cap : Nat → Nat} {f : Nat → Nat → Nat} (h : GridV w base va j m blk cap f) : (∀ k, va.ownBlock = some k → k < w.heap.size) ∧ ∀ i, i < j → blk i < w.heap.size := by
  obtain ⟨⟨rs, h1, -⟩, h3, -⟩ := h
  exact ⟨fun k hk => (h1.lt k hk).2, fun i hi => (h3 i hi).lt.2⟩
/-- A row more: 'w1' is the world with the new cell, 'w2' behind the append. -/
theorem GridV.app {w w1 w2 : World} {base j m R c : Nat} {va v' : Value} {blk cap : Nat → Nat} {f : Nat → Nat → Nat} {rs : List Value} (h : GridV w base va j m blk cap f) (hrs : w.ownsRow base 31 1 va j rs) (hro : OwnF w base R m c (f j)) (hR1 : va.ownBlock ≠ some R) (hR2 : ∀ i, i < j → blk i ≠ R)
    (h1 : Below w.heap.size w w1) (hg : w1.grownBy w2 va.ownBlock) (ho : w2.ownsRow base 31 1 v' (j + 1) (rs ++ [.slice (some ⟨R, 0, none⟩) m c])) (hv : ∀ k, v'.ownBlock = some k → va.ownBlock = some k ∨ w.heap.size ≤ k) :
    GridV w2 base v' (j + 1) m (updN blk j R) (updN cap j c) f := by
  have hrl := hrs.1
  obtain ⟨⟨rs0, g1, g2⟩, h3, h4, h5⟩ := h
  have hsz := h1.size
  have kb : ∀ b, b < w.heap.size → va.ownBlock ≠ some b → w2.heap[b]? = w.heap[b]? := fun b hb hne => (hg.block b (by omega) (fun e => hne e.symm)).trans (h1.block b hb)
  have hget : ∀ i, i < j → rs[i]? = some (.slice (some ⟨blk i, 0, none⟩) m (cap i)) := fun i hi => by
    rcases id g1.2 with ⟨rfl, rfl⟩ | ⟨g, cp, cur, rfl, -⟩
    · omega
    · have e1 := g1.cellAt i (by omega)
      have e2 := hrs.cellAt i (by omega)
      rw [← e2, e1]; exact g2 i hi
  refine ⟨⟨_, ho, fun i hi => ?_⟩, fun i hi => ?_, fun i k hi hk => ?_, fun i hi => ?_⟩
  · by_cases e : i = j
    · subst e; rw [List.getElem?_append_right (by omega), hrl, updN_at, updN_at]; simp
    · rw [List.getElem?_append_left (by omega), updN_ne _ _ e, updN_ne _ _ e]; exact hget i (by omega)
  · by_cases e : i = j
    · subst e; rw [updN_at, updN_at]; exact hro.kept (kb R hro.lt.2 hR1)
    · rw [updN_ne _ _ e, updN_ne _ _ e]; exact (h3 i (by omega)).kept (kb _ (h3 i (by omega)).lt.2 (h5 i (by omega)))
  · by_cases e1 : i = j
    · subst e1
      by_cases e2 : k = i
      · exact fun _ => e2.symm
      · rw [updN_at, updN_ne _ _ e2]; exact fun q => absurd q.symm (hR2 k (by omega))
    · by_cases e2 : k = j
      · subst e2; rw [updN_at, updN_ne _ _ e1]; exact fun q => absurd q (hR2 i (by omega))
      · rw [updN_ne _ _ e1, updN_ne _ _ e2]; exact h4 i k (by omega) (by omega)
  · intro q
    by_cases e : i = j
    · subst e
      rw [updN_at] at q
      rcases hv _ q with q2 | q2
      · exact hR1 q2
      · have := hro.lt.2; omega
    · rw [updN_ne _ _ e] at q
      rcases hv _ q with q2 | q2
      · exact h5 i (by omega) q2
      · have := (h3 i (by omega)).lt.2; omega
end Go.Proofs.Ytnlbafjmbamoeaa
