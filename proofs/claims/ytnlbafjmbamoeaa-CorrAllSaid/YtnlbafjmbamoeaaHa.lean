/-
  Rows and tables of numbers that a call owns, or reads.
-/
import Derived.Test.YtnlbafjmbamoeaaGj
import Derived.Test.YtnlbafjmbamoeaaGc
import Derived.WalkKit
import Derived.OwnWalk
import Derived.Laws.OwnMore
import Derived.ChangeSlices
namespace Go.Proofs.Ytnlbafjmbamoeaa
open Go.RowKit
open Ieee (double)
attribute [local go_sem] alloc_drewN setCell_drewN call_bits call_frombits ord_lt ord_eq ord_gt ord_ne ord_le ord_ge eqB_self run_fadd run_fsub run_fmul run_fquo

def Tells (v : Value) (w : World) (e : Ending) (w' : World) : Prop := e = .returned v ∧ Below w.heap.size w w'
theorem Tells.eq {v u : Value} {w w' : World} {e : Ending} (h : Tells v w e w') (hv : v = u) : Tells u w e w' := hv ▸ h
def finB (x : Nat) : Bool := decide (x % p63 < infR)
theorem eqz_fval (w : World) (a : Nat) : eqB (fval .sub w a a) 0 = finB a := by
  unfold finB
  rw [← sub_self_zero, ← eqB_canon, canon_fval, show canon 0 = 0 from rfl]
theorem finiteG_tells (a : Nat) (w : World) : Calls Try.prog 69 #[.float .f64 a] w (Tells (.bool (finB a)) w) := by
  have hz := fun w => eqz_fval w a
  have H := Lib.hid hz
  clear hz
  go_enter Try.func69, Try.ntmps69
  go_wp2
  go_ret
  exact ⟨ret_bool (H.out _), below_drew (Below.refl _ _) _⟩
theorem finite_tells (a : Nat) (w : World) : Calls Try.prog 49 #[.float .f64 a] w (Tells (.bool (finB a)) w) := by
  go_enter Try.func49, Try.ntmps49
  go_wp2_with fail
  refine (finiteG_tells a _).mono ?_
  rintro e w' ⟨rfl, hb⟩
  go_wp2_with fail
  go_ret
  exact ⟨rfl, hb⟩
theorem haStoreFlt (P : Program) (w : World) (a : Addr) (m : Mode) (b : Nat) : (store a (.float .f64 b) m).run P w = stored P w a (.float .f64 b) m := run_store P w a _ m rfl
theorem haCell {W w1 : World} (hb : Below W.heap.size W w1) : (∀ b o, b < W.heap.size → w1.cell? ⟨b, o, none⟩ = W.cell? ⟨b, o, none⟩) ∧ (∀ b o, b < W.heap.size → w1.frozen? ⟨b, o, none⟩ = W.frozen? ⟨b, o, none⟩) :=
  ⟨fun b o h => hb.cell (p := ⟨b, o, none⟩) h, fun b o h => hb.frozen (p := ⟨b, o, none⟩) h⟩
/-- A cell of a number: this one (a NaN as one). -/
def FCell (w : World) (b o c : Nat) : Prop := ∃ y, w.cell? ⟨b, o, none⟩ = some (.float .f64 y) ∧ canon y = c ∧ y < 18446744073709551616
theorem FCell.same {w w' : World} {b o c : Nat} (h : FCell w b o c) (hc : w'.cell? ⟨b, o, none⟩ = w.cell? ⟨b, o, none⟩) : FCell w' b o c := by
  obtain ⟨y, h1, h2, h3⟩ := h
  exact ⟨y, hc.trans h1, h2, h3⟩

/-- So many numbers, in a block that is a call's own, from base on. -/
def OwnF (w : World) (base R n cap : Nat) (f : Nat → Nat) : Prop :=
  ∃ rs, w.ownsRow base 32 1 (.slice (some ⟨R, 0, none⟩) n cap) n rs ∧ ∀ j, j < n → ∃ y, rs[j]? = some (.float .f64 y) ∧ canon y = f j ∧ y < 18446744073709551616
theorem OwnF.cell {w : World} {base R n cap : Nat} {f : Nat → Nat} (h : OwnF w base R n cap f) {j : Nat} (hj : j < n) : FCell w R j (f j) := by
  obtain ⟨rs, h1, h2⟩ := h
  obtain ⟨y, y1, y2, y3⟩ := h2 j hj
  exact ⟨y, (h1.cellAt j (by omega)).trans y1, y2, y3⟩
theorem OwnF.free {w : World} {base R n cap : Nat} {f : Nat → Nat} (h : OwnF w base R n cap f) (j : Nat) : w.frozen? ⟨R, j, none⟩ = false := by
  obtain ⟨rs, h1, -⟩ := h
  exact h1.frozenAt j
theorem OwnF.lt {w : World} {base R n cap : Nat} {f : Nat → Nat} (h : OwnF w base R n cap f) : base ≤ R ∧ R < w.heap.size := by
  obtain ⟨rs, h1, -⟩ := h
  exact h1.lt R rfl
theorem OwnF.kept {w w' : World} {base R n cap : Nat} {f : Nat → Nat} (h : OwnF w base R n cap f) (hb : w'.heap[R]? = w.heap[R]?) : OwnF w' base R n cap f := by
  obtain ⟨rs, ⟨h1, h2⟩, h3⟩ := h
  refine ⟨rs, ⟨h1, ?_⟩, h3⟩
  rcases h2 with ⟨h2, -⟩ | ⟨g, c, cur, hv, hg, hh, r⟩
  · cases h2
  · simp only [Value.slice.injEq, Option.some.injEq, Addr.mk.injEq] at hv
    obtain ⟨⟨rfl, -⟩, -, rfl⟩ := hv
    exact .inr ⟨_, _, cur, rfl, hg, hb.trans hh, r⟩
theorem OwnF.below {w w' : World} {base R n cap : Nat} {f : Nat → Nat} (h : OwnF w base R n cap f) {B : Nat} (hb : Below B w w') (hB : R < B) : OwnF w' base R n cap f := h.kept (hb.block R hB)
theorem OwnF.base {w : World} {base b' R n cap : Nat} {f : Nat → Nat} (h : OwnF w base R n cap f) (hb : b' ≤ R) : OwnF w b' R n cap f := by
  obtain ⟨rs, ⟨h1, h2⟩, h3⟩ := h
  refine ⟨rs, ⟨h1, ?_⟩, h3⟩
  rcases h2 with ⟨h2, -⟩ | ⟨g, c, cur, hv, hg, r⟩
  · cases h2
  · simp only [Value.slice.injEq, Option.some.injEq, Addr.mk.injEq] at hv
    obtain ⟨⟨rfl, -⟩, -, rfl⟩ := hv
    exact .inr ⟨_, _, cur, rfl, hb, r⟩
theorem OwnF.congr {w : World} {base R n cap : Nat} {f g : Nat → Nat} (h : OwnF w base R n cap f) (e : ∀ j, j < n → f j = g j) : OwnF w base R n cap g := by
  obtain ⟨rs, h1, h2⟩ := h
  refine ⟨rs, h1, fun j hj => ?_⟩
  rw [← e j hj]
  exact h2 j hj
/-- A function with one value other. -/
def updN {α : Type} (f : Nat → α) (j : Nat) (c : α) : Nat → α := fun i => if i = j then c else f i
theorem updN_at {α : Type} (f : Nat → α) (j : Nat) (c : α) : updN f j c j = c := if_pos rfl
theorem updN_ne {α : Type} (f : Nat → α) {i j : Nat} (c : α) (h : i ≠ j) : updN f j c i = f i := if_neg h
theorem OwnF.set {w : World} {base R n cap : Nat} {f : Nat → Nat} (h : OwnF w base R n cap f) {j y c : Nat} (hj : j < n) (h1 : canon y = c) (h2 : y < 18446744073709551616) : OwnF (w.setCell ⟨R, j, none⟩ (.float .f64 y)) base R n cap (updN f j c) := by
  obtain ⟨rs, g1, g2⟩ := h
  have hl := g1.1
  refine ⟨rs.set j (.float .f64 y), (g1.stored j _).1, fun i hi => ?_⟩
  by_cases e : i = j
  · subst e
    exact ⟨y, by rw [List.getElem?_set_self (by omega)], by rw [updN_at]; exact h1, h2⟩
  · obtain ⟨z, z1, z2, z3⟩ := g2 i hi
    exact ⟨z, by rw [List.getElem?_set_ne (Ne.symm e)]; exact z1, by rw [updN_ne _ _ e]; exact z2, z3⟩
theorem OwnF.other {w : World} {base R n cap : Nat} {f : Nat → Nat} (h : OwnF w base R n cap f) {B o : Nat} (hne : B ≠ R) (v : Value) : OwnF (w.setCell ⟨B, o, none⟩ v) base R n cap f :=
  h.kept (Below.heap_setCell _ _ _ _ (fun e => hne (by simpa using e.symm)))

/-- A slice that reads as these numbers (a NaN as one). -/
def FRow (w : World) (v : Value) (n : Nat) (f : Nat → Nat) : Prop :=
  ∃ a cap, v = .slice a n cap ∧ n ≤ 9223372036854775807 ∧ (0 < n → ∃ b off, a = some ⟨b, off, none⟩ ∧ b < w.heap.size ∧ ∀ i, i < n → FCell w b (off + i) (f i))
theorem FRow.below {w w' : World} {v : Value} {n : Nat} {f : Nat → Nat} (h : FRow w v n f) (hb : Below w.heap.size w w') : FRow w' v n f := by
  obtain ⟨a, cap, h1, h2, h3⟩ := h
  refine ⟨a, cap, h1, h2, fun hl => ?_⟩
  obtain ⟨b, off, e, hs, hc⟩ := h3 hl
  exact ⟨b, off, e, Nat.lt_of_lt_of_le hs hb.size, fun i hi => (hc i hi).same ((haCell hb).1 _ _ hs)⟩
theorem FRow.congr {w : World} {v : Value} {n : Nat} {f g : Nat → Nat} (h : FRow w v n f) (e : ∀ j, j < n → f j = g j) : FRow w v n g := by
  obtain ⟨a, cap, h1, h2, h3⟩ := h
  refine ⟨a, cap, h1, h2, fun hl => ?_⟩
  obtain ⟨b, off, e', hs, hc⟩ := h3 hl
  exact ⟨b, off, e', hs, fun i hi => e i hi ▸ hc i hi⟩
theorem OwnF.flts {w : World} {base R n cap : Nat} {f : Nat → Nat} (h : OwnF w base R n cap f) (hn : n ≤ 9223372036854775807) : FRow w (.slice (some ⟨R, 0, none⟩) n cap) n f :=
  ⟨_, cap, rfl, hn, fun _ => ⟨R, 0, rfl, h.lt.2, fun i hi => by rw [Nat.zero_add]; exact h.cell hi⟩⟩
/-- A slice of slices that reads as a table: row i has m i numbers. -/
def TabR (w : World) (v : Value) (n : Nat) (m : Nat → Nat) (f : Nat → Nat → Nat) : Prop :=
  ∃ a cap, v = .slice a n cap ∧ n ≤ 9223372036854775807 ∧ (0 < n → ∃ b off, a = some ⟨b, off, none⟩ ∧ b < w.heap.size ∧ ∀ i, i < n → ∃ u, w.cell? ⟨b, off + i, none⟩ = some u ∧ FRow w u (m i) (f i))
theorem TabR.below {w w' : World} {v : Value} {n : Nat} {m : Nat → Nat} {f : Nat → Nat → Nat} (h : TabR w v n m f) (hb : Below w.heap.size w w') : TabR w' v n m f := by
  obtain ⟨a, cap, h1, h2, h3⟩ := h
  refine ⟨a, cap, h1, h2, fun hl => ?_⟩
  obtain ⟨b, off, e, hs, hc⟩ := h3 hl
  refine ⟨b, off, e, Nat.lt_of_lt_of_le hs hb.size, fun i hi => ?_⟩
  obtain ⟨u, u1, u2⟩ := hc i hi
  exact ⟨u, ((haCell hb).1 _ _ hs).trans u1, u2.below hb⟩
/-- A table that is a call's own: its rows' blocks are blk i, none twice, none the table's. -/
structure Grid (w : World) (base G n m : Nat) (blk cap : Nat → Nat) (f : Nat → Nat → Nat) : Prop where
  ref : ∀ i, i < n → w.cell? ⟨G, i, none⟩ = some (.slice (some ⟨blk i, 0, none⟩) m (cap i))
  free : ∀ i, i < n → w.frozen? ⟨G, i, none⟩ = false
  row : ∀ i, i < n → OwnF w base (blk i) m (cap i) (f i)
  inj : ∀ i j, i < n → j < n → blk i = blk j → i = j
  off : ∀ i, i < n → blk i ≠ G
  lo : base ≤ G
  hi : G < w.heap.size
theorem Grid.below {w w' : World} {base G n m : Nat} {blk cap : Nat → Nat} {f : Nat → Nat → Nat} (h : Grid w base G n m blk cap f) (hb : Below w.heap.size w w') : Grid w' base G n m blk cap f :=
  ⟨fun i hi => ((haCell hb).1 _ _ h.hi).trans (h.ref i hi), fun i hi => ((haCell hb).2 _ _ h.hi).trans (h.free i hi), fun i hi => (h.row i hi).below hb (h.row i hi).lt.2, h.inj, h.off, h.lo, Nat.lt_of_lt_of_le h.hi hb.size⟩
theorem Grid.congr {w : World} {base G n m : Nat} {blk cap : Nat → Nat} {f g : Nat → Nat → Nat} (h : Grid w base G n m blk cap f) (e : ∀ i j, i < n → j < m → f i j = g i j) : Grid w base G n m blk cap g :=
  ⟨h.ref, h.free, fun i hi => (h.row i hi).congr (fun j hj => e i j hi hj), h.inj, h.off, h.lo, h.hi⟩
theorem Grid.base {w : World} {base b' G n m : Nat} {blk cap : Nat → Nat} {f : Nat → Nat → Nat} (h : Grid w base G n m blk cap f) (hb : b' ≤ base) : Grid w b' G n m blk cap f :=
  ⟨h.ref, h.free, fun i hi => (h.row i hi).base (Nat.le_trans hb (h.row i hi).lt.1), h.inj, h.off, Nat.le_trans hb h.lo, h.hi⟩
theorem Grid.tab {w : World} {base G n m c : Nat} {blk cap : Nat → Nat} {f : Nat → Nat → Nat} (h : Grid w base G n m blk cap f) (hn : n ≤ 9223372036854775807) (hm : m ≤ 9223372036854775807) : TabR w (.slice (some ⟨G, 0, none⟩) n c) n (fun _ => m) f :=
  ⟨_, c, rfl, hn, fun _ => ⟨G, 0, rfl, h.hi, fun i hi => ⟨_, by rw [Nat.zero_add]; exact h.ref i hi, (h.row i hi).flts hm⟩⟩⟩
/-- A table with one number other. -/
def updN2 (f : Nat → Nat → Nat) (i j c : Nat) : Nat → Nat → Nat := updN f i (updN (f i) j c)
theorem updN2_at (f : Nat → Nat → Nat) (i j c : Nat) : updN2 f i j c i j = c := by unfold updN2; rw [updN_at, updN_at]
theorem updN2_ne (f : Nat → Nat → Nat) {i j a b : Nat} (c : Nat) (h : a ≠ i ∨ b ≠ j) : updN2 f i j c a b = f a b := by
  unfold updN2
  by_cases e : a = i
  · subst e
    rw [updN_at, updN_ne _ _ (h.resolve_left (fun g => g rfl))]
  · rw [updN_ne _ _ e]
theorem Grid.set {w : World} {base G n m : Nat} {blk cap : Nat → Nat} {f : Nat → Nat → Nat} (h : Grid w base G n m blk cap f) {i j y c : Nat} (hi : i < n) (hj : j < m) (h1 : canon y = c) (h2 : y < 18446744073709551616) : Grid (w.setCell ⟨blk i, j, none⟩ (.float .f64 y)) base G n m blk cap (updN2 f i j c) := by
  have hG : (w.setCell ⟨blk i, j, none⟩ (.float .f64 y)).heap[G]? = w.heap[G]? := Below.heap_setCell _ _ _ _ (fun e => h.off i hi e.symm)
  refine ⟨fun k hk => (World.cell?_of_block (a := ⟨G, k, none⟩) hG).trans (h.ref k hk), fun k hk => (World.frozen?_of_block (a := ⟨G, k, none⟩) hG).trans (h.free k hk), fun k hk => ?_, h.inj, h.off, h.lo, by simp [World.setCell]; exact h.hi⟩
  by_cases e : k = i
  · subst e
    unfold updN2
    rw [updN_at]
    exact (h.row k hk).set hj h1 h2
  · unfold updN2
    rw [updN_ne _ _ e]
    exact (h.row k hk).other (fun g => e (h.inj k i hk hi g.symm)) _
theorem Grid.setOther {w : World} {base G n m : Nat} {blk cap : Nat → Nat} {f : Nat → Nat → Nat} (h : Grid w base G n m blk cap f) {B o : Nat} (h1 : B ≠ G) (h2 : ∀ i, i < n → B ≠ blk i) (v : Value) : Grid (w.setCell ⟨B, o, none⟩ v) base G n m blk cap f := by
  have hG : (w.setCell ⟨B, o, none⟩ v).heap[G]? = w.heap[G]? := Below.heap_setCell _ _ _ _ (fun e => h1 e.symm)
  exact ⟨fun k hk => (World.cell?_of_block (a := ⟨G, k, none⟩) hG).trans (h.ref k hk), fun k hk => (World.frozen?_of_block (a := ⟨G, k, none⟩) hG).trans (h.free k hk), fun k hk => (h.row k hk).other (h2 k hk) _, h.inj, h.off, h.lo, by simp [World.setCell]; exact h.hi⟩
end Go.Proofs.Ytnlbafjmbamoeaa
