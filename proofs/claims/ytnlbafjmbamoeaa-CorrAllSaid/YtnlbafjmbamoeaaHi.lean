/-
  Rows of whole numbers that a call owns; two rows of a table in each other's place.
-/
import Derived.Test.YtnlbafjmbamoeaaHg
import Derived.Test.YtnlbafjmbamoeaaHlp
namespace Go.Proofs.Ytnlbafjmbamoeaa
open Go.RowKit
open Ieee (double)

/-- So many whole numbers, in a block that is a call's own, from base on. -/
def OwnI (w : World) (base R n cap : Nat) (f : Nat → Int) : Prop :=
  ∃ rs, w.ownsRow base 3 1 (.slice (some ⟨R, 0, none⟩) n cap) n rs ∧ ∀ j, j < n → rs[j]? = some (.int .i64 (f j))
theorem OwnI.cell {w : World} {base R n cap : Nat} {f : Nat → Int} (h : OwnI w base R n cap f) {j : Nat} (hj : j < n) : w.cell? ⟨R, j, none⟩ = some (.int .i64 (f j)) := by
  obtain ⟨rs, h1, h2⟩ := h
  exact (h1.cellAt j (by omega)).trans (h2 j hj)
theorem OwnI.free {w : World} {base R n cap : Nat} {f : Nat → Int} (h : OwnI w base R n cap f) (j : Nat) : w.frozen? ⟨R, j, none⟩ = false := by
  obtain ⟨rs, h1, -⟩ := h
  exact h1.frozenAt j
theorem OwnI.lt {w : World} {base R n cap : Nat} {f : Nat → Int} (h : OwnI w base R n cap f) : base ≤ R ∧ R < w.heap.size := by
  obtain ⟨rs, h1, -⟩ := h
  exact h1.lt R rfl
theorem OwnI.kept {w w' : World} {base R n cap : Nat} {f : Nat → Int} (h : OwnI w base R n cap f) (hb : w'.heap[R]? = w.heap[R]?) : OwnI w' base R n cap f := by
  obtain ⟨rs, h1, h3⟩ := h
  exact ⟨rs, ownsRow_block h1 hb, h3⟩
theorem OwnI.below {w w' : World} {base R n cap : Nat} {f : Nat → Int} (h : OwnI w base R n cap f) {B : Nat} (hb : Below B w w') (hB : R < B) : OwnI w' base R n cap f := h.kept (hb.block R hB)
theorem OwnI.base {w : World} {base b' R n cap : Nat} {f : Nat → Int} (h : OwnI w base R n cap f) (hb : b' ≤ R) : OwnI w b' R n cap f := by
  obtain ⟨rs, ⟨h1, h2⟩, h3⟩ := h
  refine ⟨rs, ⟨h1, ?_⟩, h3⟩
  rcases h2 with ⟨h2, -⟩ | ⟨g, c, cur, hv, hg, r⟩
  · cases h2
  · simp only [Value.slice.injEq, Option.some.injEq, Addr.mk.injEq] at hv
    obtain ⟨⟨rfl, -⟩, -, rfl⟩ := hv
    exact .inr ⟨_, _, cur, rfl, hb, r⟩
theorem OwnI.congr {w : World} {base R n cap : Nat} {f g : Nat → Int} (h : OwnI w base R n cap f) (e : ∀ j, j < n → f j = g j) : OwnI w base R n cap g := by
  obtain ⟨rs, h1, h2⟩ := h
  exact ⟨rs, h1, fun j hj => by rw [← e j hj]; exact h2 j hj⟩
theorem OwnI.set {w : World} {base R n cap : Nat} {f : Nat → Int} (h : OwnI w base R n cap f) {j : Nat} (hj : j < n) (c : Int) : OwnI (w.setCell ⟨R, j, none⟩ (.int .i64 c)) base R n cap (updN f j c) := by
  obtain ⟨rs, g1, g2⟩ := h
  have hl := g1.1
  refine ⟨rs.set j (.int .i64 c), (g1.stored j _).1, fun i hi => ?_⟩
  by_cases e : i = j
  · subst e; rw [updN_at, List.getElem?_set_self (by omega)]
  · rw [updN_ne _ _ e, List.getElem?_set_ne (Ne.symm e)]; exact g2 i hi
theorem OwnI.other {w : World} {base R n cap : Nat} {f : Nat → Int} (h : OwnI w base R n cap f) {B o : Nat} (hne : B ≠ R) (v : Value) : OwnI (w.setCell ⟨B, o, none⟩ v) base R n cap f :=
  h.kept (Below.heap_setCell _ _ _ _ (fun e => hne (by simpa using e.symm)))
theorem ownI_made {w : World} {base R n : Nat} (h : w.ownsRow base 3 1 (.slice (some ⟨R, 0, none⟩) n n) n (madeCells #[Value.int .i64 0] n).toList) : OwnI w base R n n fun _ => 0 := by
  refine ⟨_, h, fun j hj => ?_⟩
  rw [toList_madeCells_one, List.getElem?_replicate, if_pos hj]
/-- A slice that reads as these whole numbers. -/
def Ints0 (w : World) (v : Value) (n : Nat) (f : Nat → Int) : Prop :=
  ∃ a cap, v = .slice a n cap ∧ n ≤ 9223372036854775807 ∧ (0 < n → ∃ b off, a = some ⟨b, off, none⟩ ∧ b < w.heap.size ∧ ∀ i, i < n → w.cell? ⟨b, off + i, none⟩ = some (.int .i64 (f i)))
theorem Ints0.below {w w' : World} {v : Value} {n : Nat} {f : Nat → Int} (h : Ints0 w v n f) (hb : Below w.heap.size w w') : Ints0 w' v n f := by
  obtain ⟨a, cap, h1, h2, h3⟩ := h
  refine ⟨a, cap, h1, h2, fun hl => ?_⟩
  obtain ⟨b, off, e, hs, hc⟩ := h3 hl
  exact ⟨b, off, e, Nat.lt_of_lt_of_le hs hb.size, fun i hi => ((haCell hb).1 _ _ hs).trans (hc i hi)⟩
theorem OwnI.ints {w : World} {base R n cap : Nat} {f : Nat → Int} (h : OwnI w base R n cap f) (hn : n ≤ 9223372036854775807) : Ints0 w (.slice (some ⟨R, 0, none⟩) n cap) n f :=
  ⟨_, cap, rfl, hn, fun _ => ⟨R, 0, rfl, h.lt.2, fun i hi => by rw [Nat.zero_add]; exact h.cell hi⟩⟩

/-- Which one is where. -/
def sg (p k i : Nat) : Nat := if i = k then p else if i = p then k else i
theorem swp_sg {α : Type} (f : Nat → α) (p k i : Nat) : swp f p k i = f (sg p k i) := by
  unfold sg
  by_cases h : i = k
  · subst h; rw [if_pos rfl, swp_at2]
  · rw [if_neg h]
    by_cases g : i = p
    · subst g; rw [if_pos rfl, swp_at1]
    · rw [if_neg g, swp_ne _ g h]
theorem sg_lt {p k i n : Nat} (hp : p < n) (hk : k < n) (hi : i < n) : sg p k i < n := by unfold sg; split <;> (try split) <;> omega
theorem sg_inj {p k i j : Nat} (h : sg p k i = sg p k j) : i = j := by
  unfold sg at h
  split at h <;> split at h <;> (try split at h) <;> (try split at h) <;> omega
theorem cell_set1 {w : World} {G p k : Nat} {x y : Value} (u : Value) (hx : w.cell? ⟨G, p, none⟩ = some x) (hy : w.cell? ⟨G, k, none⟩ = some y) : ∃ z, (w.setCell ⟨G, p, none⟩ u).cell? ⟨G, k, none⟩ = some z := by
  by_cases e : k = p
  · subst e; exact ⟨u, by simp [go_sem, hx]⟩
  · exact ⟨y, by rw [World.cell?_setCell_other _ _ _ _ (fun q => e (by injection q with _ q2 _; omega))]; exact hy⟩
theorem cell_set2 {w : World} {G p k i : Nat} {u v x y : Value} (hx : w.cell? ⟨G, p, none⟩ = some x) (hy : w.cell? ⟨G, k, none⟩ = some y) :
    ((w.setCell ⟨G, p, none⟩ u).setCell ⟨G, k, none⟩ v).cell? ⟨G, i, none⟩ = if i = k then some v else if i = p then some u else w.cell? ⟨G, i, none⟩ := by
  have hk : ∃ z, (w.setCell ⟨G, p, none⟩ u).cell? ⟨G, k, none⟩ = some z := by
    by_cases e : k = p
    · subst e; exact ⟨u, by simp [go_sem, hx]⟩
    · exact ⟨y, by rw [World.cell?_setCell_other _ _ _ _ (fun q => e (by injection q with _ q2 _; omega))]; exact hy⟩
  obtain ⟨z, hz⟩ := hk
  by_cases h : i = k
  · subst h
    rw [if_pos rfl]
    generalize w.setCell ⟨G, p, none⟩ u = W at *
    simp [go_sem, hz]
  · rw [if_neg h, World.cell?_setCell_other _ _ _ _ (fun q => h (by injection q with _ q2 _; omega))]
    by_cases g : i = p
    · subst g; rw [if_pos rfl]; simp [go_sem, hx]
    · rw [if_neg g, World.cell?_setCell_other _ _ _ _ (fun q => g (by injection q with _ q2 _; omega))]
theorem Grid.swap {w : World} {base G n m p k : Nat} {blk cap : Nat → Nat} {f : Nat → Nat → Nat} (h : Grid w base G n m blk cap f) (hp : p < n) (hk : k < n) :
    Grid ((w.setCell ⟨G, p, none⟩ (.slice (some ⟨blk k, 0, none⟩) m (cap k))).setCell ⟨G, k, none⟩ (.slice (some ⟨blk p, 0, none⟩) m (cap p))) base G n m (swp blk p k) (swp cap p k) (swp f p k) := by
  refine ⟨fun i hi => ?_, fun i hi => ?_, fun i hi => ?_, fun i j hi hj => ?_, fun i hi => ?_, h.lo, by simp [World.setCell]; exact h.hi⟩
  · rw [cell_set2 (h.ref p hp) (h.ref k hk), swp_sg, swp_sg]
    unfold sg
    by_cases e : i = k
    · rw [if_pos e, if_pos e]
    · rw [if_neg e, if_neg e]
      by_cases g : i = p
      · rw [if_pos g, if_pos g]
      · rw [if_neg g, if_neg g]; exact h.ref i hi
  · have e : ∀ (W : World) (b : Nat) (v : Value), (W.setCell ⟨G, b, none⟩ v).frozen? ⟨G, i, none⟩ = W.frozen? ⟨G, i, none⟩ := fun W b v => by simp [go_sem]
    rw [e, e]; exact h.free i hi
  · rw [swp_sg, swp_sg, swp_sg]
    have := sg_lt hp hk hi
    exact ((h.row _ this).other (fun q => h.off _ this q.symm) _).other (fun q => h.off _ this q.symm) _
  · rw [swp_sg, swp_sg]
    exact fun q => sg_inj (h.inj _ _ (sg_lt hp hk hi) (sg_lt hp hk hj) q)
  · rw [swp_sg]; exact h.off _ (sg_lt hp hk hi)
theorem OwnI.swap {w : World} {base R n cap p k : Nat} {f : Nat → Int} (h : OwnI w base R n cap f) (hp : p < n) (hk : k < n) :
    OwnI ((w.setCell ⟨R, p, none⟩ (.int .i64 (f k))).setCell ⟨R, k, none⟩ (.int .i64 (f p))) base R n cap (swp f p k) := (h.set hp (f k)).set hk (f p)
theorem OwnI.drewN {w : World} {base R n cap : Nat} {f : Nat → Int} (h : OwnI w base R n cap f) (q : Nat) : OwnI (w.drewN q) base R n cap f := h.kept rfl
theorem OwnF.drewN {w : World} {base R n cap : Nat} {f : Nat → Nat} (h : OwnF w base R n cap f) (q : Nat) : OwnF (w.drewN q) base R n cap f := h.kept rfl
theorem Grid.drew {w : World} {base G n m : Nat} {blk cap : Nat → Nat} {f : Nat → Nat → Nat} (h : Grid w base G n m blk cap f) : Grid w.drew base G n m blk cap f := h.below (Below.refl _ _).drew
theorem OwnI.drew {w : World} {base R n cap : Nat} {f : Nat → Int} (h : OwnI w base R n cap f) : OwnI w.drew base R n cap f := h.kept rfl
theorem OwnF.drew {w : World} {base R n cap : Nat} {f : Nat → Nat} (h : OwnF w base R n cap f) : OwnF w.drew base R n cap f := h.kept rfl
end Go.Proofs.Ytnlbafjmbamoeaa
