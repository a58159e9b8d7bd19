/-
  The tapes that a law makes of numbers: what they are.
-/
import Derived.Test.YtnlbafjmbamoeaaTpb
import Derived.WalkKit
import Derived.OwnWalk
import Derived.Laws.OwnMore
namespace Go.Proofs.Ytnlbafjmbamoeaa
open Go.RowKit
open Ieee (double)
attribute [local go_sem] alloc_drewN setCell_drewN call_bits call_frombits ord_lt ord_eq ord_gt ord_ne ord_le ord_ge eqB_self run_fadd run_fsub run_fmul run_fquo

theorem run_store_flt (P : Program) (w : World) (a : Addr) (m : Mode) (b : Nat) : (store a (.float .f64 b) m).run P w = stored P w a (.float .f64 b) m := run_store P w a _ m rfl
/-! ### The tape -/
def cst (x : Int) (d : Nat) : Nat := cop .quo (floatOfInt .f64 x) d
def opOf (k n : Int) (div : Bool) : OpD :=
  if k % 11 = 0 then ⟨0, 0, 0, cst (k.tdiv 11 % 33 - 16) 4620693217682128896⟩
  else ⟨if div = true ∧ k % 7 = 0 then 5 else 2 + k % 3, k.tdiv 4 % n, k.tdiv 40 % n, 0⟩
/-- The operations: so many variables, a number, what numbers tell. -/
def opAt (n : Int) (ns : Nat → Int) (div : Bool) (i : Nat) : OpD :=
  if (i : Int) < 1 + n % 3 then ⟨1, i, 0, 0⟩
  else if (i : Int) = 1 + n % 3 then ⟨0, 0, 0, cst (n % 17 - 8) 4616189618054758400⟩
  else opOf (ns (i - 1 - (1 + n % 3).toNat)) i div
def makeT (n : Int) (ns : Nat → Int) (len : Nat) (div : Bool) : TD where
  n := 1 + n % 3
  len := (1 + n % 3).toNat + 1 + min len 8
  op := opAt n ns div
  lo := (1 + n % 3).toNat
  out := fun i => (((1 + n % 3).toNat + 1 + min len 8 : Nat) : Int) - 1 - (n.tdiv 3 + i) % (min 3 ((1 + n % 3).toNat + 1 + min len 8) : Nat)

def cellsO (o : OpD) : List Value := [.int .i64 o.k, .int .i64 o.a, .int .i64 o.b, .float .f64 o.c]
def opsL (op : Nat → OpD) : Nat → List Value
  | 0 => []
  | k + 1 => opsL op k ++ cellsO (op k)
theorem opsL_len (op : Nat → OpD) : ∀ k, (opsL op k).length = k * 4
  | 0 => rfl
  | k + 1 => by rw [opsL, List.length_append, opsL_len op k]; simp [cellsO]; omega
theorem opsL_get (op : Nat → OpD) {i r : Nat} (hr : r < 4) : ∀ {k : Nat}, i < k → (opsL op k)[i * 4 + r]? = (cellsO (op i))[r]?
  | k + 1, h => by
    have hl := opsL_len op k
    rw [opsL]
    by_cases e : i = k
    · subst e
      rw [List.getElem?_append_right (by omega), hl]
      congr 1
      omega
    · rw [List.getElem?_append_left (by rw [hl]; omega)]
      exact opsL_get op hr (by omega)
def intsL (f : Nat → Int) : Nat → List Value
  | 0 => []
  | k + 1 => intsL f k ++ [.int .i64 (f k)]
theorem intsL_len (f : Nat → Int) : ∀ k, (intsL f k).length = k
  | 0 => rfl
  | k + 1 => by rw [intsL, List.length_append, intsL_len f k]; simp
theorem intsL_get (f : Nat → Int) {i : Nat} : ∀ {k : Nat}, i < k → (intsL f k)[i]? = some (.int .i64 (f i))
  | k + 1, h => by
    have hl := intsL_len f k
    rw [intsL]
    by_cases e : i = k
    · subst e
      rw [List.getElem?_append_right (by omega), hl]
      simp
    · rw [List.getElem?_append_left (by omega)]
      exact intsL_get f (by omega)
theorem own_slice {w : World} {base : Nat} {e : TypeId} {size n : Nat} {v : Value} {xs : List Value} (h : w.ownsRow base e size v n xs) : ∃ a cap, v = .slice a n cap ∧ (0 < n → ∃ g, a = some ⟨g, 0, none⟩ ∧ g < w.heap.size ∧ ∀ j, j < n * size → w.cell? ⟨g, j, none⟩ = xs[j]?) := by
  rcases id h.2 with ⟨rfl, rfl⟩ | ⟨g, cap, cur, rfl, h1, h2, h3⟩
  · exact ⟨none, 0, rfl, fun h => by omega⟩
  · refine ⟨_, cap, rfl, fun _ => ⟨g, rfl, ?_, fun j hj => h.cellAt j hj⟩⟩
    exact (h.lt g rfl).2
theorem ops_of_own {w : World} {base : Nat} {e : TypeId} {n : Nat} {v : Value} {op : Nat → OpD} (h : w.ownsRow base e 4 v n (opsL op n)) (hn : n ≤ 9223372036854775807) : OpsAt w v n op := by
  obtain ⟨a, cap, rfl, hc⟩ := own_slice h
  refine ⟨a, cap, rfl, hn, fun h0 => ?_⟩
  obtain ⟨g, rfl, hg, hc⟩ := hc h0
  refine ⟨g, 0, rfl, hg, fun i hi => ⟨?_, ?_, ?_, ?_⟩⟩
  · have := hc (i * 4) (by omega); rw [Nat.zero_add, this]; exact (opsL_get op (r := 0) (by omega) hi)
  · have := hc (i * 4 + 1) (by omega); rw [Nat.zero_add, this]; exact (opsL_get op (r := 1) (by omega) hi)
  · have := hc (i * 4 + 2) (by omega); rw [Nat.zero_add, this]; exact (opsL_get op (r := 2) (by omega) hi)
  · have := hc (i * 4 + 3) (by omega); rw [Nat.zero_add, this]; exact (opsL_get op (r := 3) (by omega) hi)
theorem ints_of_own {w : World} {base : Nat} {e : TypeId} {n : Nat} {v : Value} {f : Nat → Int} (h : w.ownsRow base e 1 v n (intsL f n)) (hn : n ≤ 9223372036854775807) : IntsF w v n f := by
  obtain ⟨a, cap, rfl, hc⟩ := own_slice h
  refine ⟨a, cap, rfl, hn, fun h0 => ?_⟩
  obtain ⟨g, rfl, hg, hc⟩ := hc h0
  refine ⟨g, 0, rfl, hg, fun i hi => ?_⟩
  have := hc i (by omega)
  rw [Nat.zero_add, this]
  exact intsL_get f hi

/-! ### What is on the way -/
/-- The result's place; the tape's, behind it. -/
def MV (w0 : World) (B : Nat) (n : Int) (vo vu : Value) (w : World) : Prop :=
  w.cell? ⟨B + 1, 0, none⟩ = some (.int .i64 n) ∧ w.cell? ⟨B + 1, 1, none⟩ = some vo ∧ w.cell? ⟨B + 1, 2, none⟩ = some vu ∧
  w.frozen? ⟨B + 1, 0, none⟩ = false ∧ w.frozen? ⟨B + 1, 1, none⟩ = false ∧ w.frozen? ⟨B + 1, 2, none⟩ = false ∧
  w.cell? ⟨B, 0, none⟩ = some (.int .i64 0) ∧ w.cell? ⟨B, 1, none⟩ = some (.slice none 0 0) ∧ w.cell? ⟨B, 2, none⟩ = some (.slice none 0 0) ∧
  w.frozen? ⟨B, 0, none⟩ = false ∧ w.frozen? ⟨B, 1, none⟩ = false ∧ w.frozen? ⟨B, 2, none⟩ = false ∧ B + 1 < w.heap.size ∧ w0.heap.size = B ∧ Below B w0 w
theorem MV.step {w0 : World} {B : Nat} {n : Int} {vo vu : Value} {w w' : World} (h : MV w0 B n vo vu w) (hb : Below (B + 2) w w') : MV w0 B n vo vu w' := by
  obtain ⟨h1, h2, h3, h4, h5, h6, h7, h8, h9, h10, h11, h12, h13, h14, h15⟩ := h
  have hc : ∀ b o, b < B + 2 → w'.cell? ⟨b, o, none⟩ = w.cell? ⟨b, o, none⟩ := fun b o h => hb.cell (p := ⟨b, o, none⟩) h
  have hf : ∀ b o, b < B + 2 → w'.frozen? ⟨b, o, none⟩ = w.frozen? ⟨b, o, none⟩ := fun b o h => hb.frozen (p := ⟨b, o, none⟩) h
  have := hb.size
  exact ⟨by rw [hc _ _ (by omega)]; exact h1, by rw [hc _ _ (by omega)]; exact h2, by rw [hc _ _ (by omega)]; exact h3, by rw [hf _ _ (by omega)]; exact h4, by rw [hf _ _ (by omega)]; exact h5, by rw [hf _ _ (by omega)]; exact h6,
    by rw [hc _ _ (by omega)]; exact h7, by rw [hc _ _ (by omega)]; exact h8, by rw [hc _ _ (by omega)]; exact h9, by rw [hf _ _ (by omega)]; exact h10, by rw [hf _ _ (by omega)]; exact h11, by rw [hf _ _ (by omega)]; exact h12, by omega, h14, h15.trans (hb.mono (by omega))⟩
theorem MV.set1 {w0 : World} {B : Nat} {n : Int} {vo vu : Value} {w : World} (h : MV w0 B n vo vu w) (v : Value) : MV w0 B n v vu (w.setCell ⟨B + 1, 1, none⟩ v) := by
  obtain ⟨h1, h2, h3, h4, h5, h6, h7, h8, h9, h10, h11, h12, h13, h14, h15⟩ := h
  refine ⟨by simp [go_sem, h1], by simp [go_sem, h2], by simp [go_sem, h3], by simp [go_sem, h4], by simp [go_sem, h5], by simp [go_sem, h6], by simp [go_sem, h7], by simp [go_sem, h8], by simp [go_sem, h9], by simp [go_sem, h10], by simp [go_sem, h11], by simp [go_sem, h12], by simp [World.setCell]; exact h13, h14, h15.setCell (by simp) _⟩
theorem MV.set2 {w0 : World} {B : Nat} {n : Int} {vo vu : Value} {w : World} (h : MV w0 B n vo vu w) (v : Value) : MV w0 B n vo v (w.setCell ⟨B + 1, 2, none⟩ v) := by
  obtain ⟨h1, h2, h3, h4, h5, h6, h7, h8, h9, h10, h11, h12, h13, h14, h15⟩ := h
  refine ⟨by simp [go_sem, h1], by simp [go_sem, h2], by simp [go_sem, h3], by simp [go_sem, h4], by simp [go_sem, h5], by simp [go_sem, h6], by simp [go_sem, h7], by simp [go_sem, h8], by simp [go_sem, h9], by simp [go_sem, h10], by simp [go_sem, h11], by simp [go_sem, h12], by simp [World.setCell]; exact h13, h14, h15.setCell (by simp) _⟩
theorem below_own {w w' : World} {B : Nat} {base : Nat} {e : TypeId} {size n : Nat} {v : Value} {xs : List Value} (h : w.ownsRow base e size v n xs) (hb : B ≤ base) (hs : B ≤ w.heap.size) (hg : w.grownBy w' v.ownBlock) : Below B w w' :=
  (Below.refl _ _).grown hg hs fun k hk => Nat.le_trans hb (h.lt k hk).1
theorem own_set {w : World} {D o : Nat} {u : Value} {base : Nat} {e : TypeId} {size n : Nat} {v : Value} {xs : List Value} (h : w.ownsRow base e size v n xs) (hd : D < base) : (w.setCell ⟨D, o, none⟩ u).ownsRow base e size v n xs := by
  refine h.kept (row := some D) ⟨rfl, rfl, rfl, by simp [World.setCell], fun k _ hk => Below.heap_setCell _ _ _ _ (fun e => hk (by rw [e]))⟩ ?_
  cases hv : v.ownBlock with
  | none => exact .inl rfl
  | some k => right; intro e; have := (h.lt k hv).1; simp at e; omega
theorem heap_new_at {w : World} {o : Obj} {k : Nat} (h : w.heap.size = k) : (w.alloc o).heap[k]? = some o := h ▸ heap_alloc_new w o
theorem own_setN {w : World} {D o : Nat} {u : Value} {base : Nat} {e : TypeId} {size n : Nat} {v : Value} {xs : List Value} (h : w.ownsRow base e size v n xs) (hd : v.ownBlock ≠ some D) : (w.setCell ⟨D, o, none⟩ u).ownsRow base e size v n xs :=
  h.kept (row := some D) ⟨rfl, rfl, rfl, by simp [World.setCell], fun k _ hk => Below.heap_setCell _ _ _ _ (fun e => hk (by rw [e]))⟩ (.inr hd)
theorem own_below {w w' : World} {base : Nat} {e : TypeId} {size n : Nat} {v : Value} {xs : List Value} (h : w.ownsRow base e size v n xs) (hb : Below w.heap.size w w') : w'.ownsRow base e size v n xs := by
  refine h.kept (row := none) ⟨hb.os, hb.tape, hb.output, hb.size, fun k hk _ => hb.block k hk⟩ ?_
  cases v.ownBlock <;> simp
theorem info55 : (Try.prog.info? 47).map (fun i => (i.zero, i.size, i.bytes)) = some (some (.agg #[.int .i64 0, .int .i64 0, .int .i64 0, .float .f64 0]), 4, 32) := by kernel_rfl
theorem info3 : (Try.prog.info? 3).map (fun i => (i.zero, i.size, i.bytes)) = some (some (.int .i64 0), 1, 8) := by kernel_rfl
theorem within3_mod (a n : Int) (w : World) (h1 : 1 ≤ n) (h2 : n ≤ 9223372036854775807) :
    Calls Try.prog 14 #[.int .i64 a, .int .i64 n] w fun e w' => e = .returned (.int .i64 (a % n)) ∧ w = w' := by
  have h2' := Int.emod_nonneg a (show n ≠ 0 by omega)
  have h3 := Int.emod_lt_of_pos a (show 0 < n by omega)
  have h := emod_of_tmod (a := a) h1
  have H := Lib.hid h
  clear h
  go_enter Try.func14, Try.ntmps14
  go_wp2
  · go_ret
    refine ⟨?_, rfl⟩
    have := H.out.1 (by assumption)
    exact ret_int (by rw [this]; unfold wrap64; omega)
  · go_ret
    refine ⟨?_, rfl⟩
    exact ret_int (H.out.2 (by assumption))
end Go.Proofs.Ytnlbafjmbamoeaa
