/-
  Rows of from-tos that a call owns, or reads.
-/
import Derived.Test.YtainodgbcpkipaaHv
import Derived.Test.YtainodgbcpkipaaGr
namespace Go.Proofs.Ytainodgbcpkipaa
open Go.RowKit Ex
open Ieee (double)
attribute [local go_sem] alloc_drewN setCell_drewN call_bits call_frombits ord_lt ord_eq ord_gt ord_ne ord_le ord_ge eqB_self run_fadd run_fsub run_fmul run_fquo haStoreFlt

/-- A cell's content that is this number (a NaN as one). -/
def FVal (o : Option Value) (c : Nat) : Prop := ∃ y, o = some (.float .f64 y) ∧ canon y = c ∧ y < 18446744073709551616
/-- These cells are these from-tos. -/
def TVals (qs : List Value) (n : Nat) (F : Nat → Nat × Nat) : Prop := ∀ j, j < n → FVal qs[j * 2]? (F j).1 ∧ FVal qs[j * 2 + 1]? (F j).2
theorem TVals.nil (F : Nat → Nat × Nat) (qs : List Value) : TVals qs 0 F := fun j hj => by omega
theorem TVals.app {qs : List Value} {n y z : Nat} {F : Nat → Nat × Nat} (h : TVals qs n F) (hl : qs.length = n * 2) (h1 : canon y = (F n).1) (h2 : y < 18446744073709551616) (h3 : canon z = (F n).2) (h4 : z < 18446744073709551616) : TVals (qs ++ [.float .f64 y, .float .f64 z]) (n + 1) F := fun j hj => by
  by_cases e : j = n
  · subst e
    refine ⟨⟨y, ?_, h1, h2⟩, ⟨z, ?_, h3, h4⟩⟩
    · rw [List.getElem?_append_right (by omega), hl]; simp
    · rw [List.getElem?_append_right (by omega), hl, show j * 2 + 1 - j * 2 = 1 by omega]; rfl
  · rw [List.getElem?_append_left (by omega), List.getElem?_append_left (by omega)]
    exact h j (by omega)
/-- So many from-tos, in a block that is a call's own, from base on. -/
def OwnT (w : World) (base R n cap : Nat) (F : Nat → Nat × Nat) : Prop :=
  ∃ rs, w.ownsRow base 53 2 (.slice (some ⟨R, 0, none⟩) n cap) n rs ∧ TVals rs n F
theorem TVals.own {w : World} {base n : Nat} {v : Value} {qs : List Value} {F : Nat → Nat × Nat} (h : TVals qs n F) (ho : w.ownsRow base 53 2 v n qs) (h0 : 0 < n) : ∃ R cap, v = .slice (some ⟨R, 0, none⟩) n cap ∧ OwnT w base R n cap F := by
  rcases id ho.2 with ⟨rfl, rfl⟩ | ⟨g, cap, cur, rfl, -⟩
  · omega
  · exact ⟨g, cap, rfl, qs, ho, h⟩
theorem OwnT.cell {w : World} {base R n cap : Nat} {F : Nat → Nat × Nat} (h : OwnT w base R n cap F) {j : Nat} (hj : j < n) : FCell w R (j * 2) (F j).1 ∧ FCell w R (j * 2 + 1) (F j).2 := by
  obtain ⟨rs, h1, h2⟩ := h
  obtain ⟨⟨y, y1, y2, y3⟩, ⟨z, z1, z2, z3⟩⟩ := h2 j hj
  exact ⟨⟨y, (h1.cellAt _ (by omega)).trans y1, y2, y3⟩, ⟨z, (h1.cellAt _ (by omega)).trans z1, z2, z3⟩⟩
theorem OwnT.free {w : World} {base R n cap : Nat} {F : Nat → Nat × Nat} (h : OwnT w base R n cap F) (j : Nat) : w.frozen? ⟨R, j, none⟩ = false := by
  obtain ⟨rs, h1, -⟩ := h
  exact h1.frozenAt j
theorem OwnT.lt {w : World} {base R n cap : Nat} {F : Nat → Nat × Nat} (h : OwnT w base R n cap F) : base ≤ R ∧ R < w.heap.size := by
  obtain ⟨rs, h1, -⟩ := h
  exact h1.lt R rfl
theorem OwnT.kept {w w' : World} {base R n cap : Nat} {F : Nat → Nat × Nat} (h : OwnT w base R n cap F) (hb : w'.heap[R]? = w.heap[R]?) : OwnT w' base R n cap F := by
  obtain ⟨rs, h1, h3⟩ := h
  exact ⟨rs, own_kept h1 (fun k hk => by cases hk; exact hb), h3⟩
theorem OwnT.below {w w' : World} {base R n cap : Nat} {F : Nat → Nat × Nat} (h : OwnT w base R n cap F) {B : Nat} (hb : Below B w w') (hB : R < B) : OwnT w' base R n cap F := h.kept (hb.block R hB)
theorem OwnT.congr {w : World} {base R n cap : Nat} {F G : Nat → Nat × Nat} (h : OwnT w base R n cap F) (e : ∀ j, j < n → F j = G j) : OwnT w base R n cap G := by
  obtain ⟨rs, h1, h2⟩ := h
  exact ⟨rs, h1, fun j hj => by rw [← e j hj]; exact h2 j hj⟩
theorem OwnT.set {w : World} {base R n cap : Nat} {F : Nat → Nat × Nat} (h : OwnT w base R n cap F) {j y z : Nat} {p : Nat × Nat} (hj : j < n) (h1 : canon y = p.1) (h2 : y < 18446744073709551616) (h3 : canon z = p.2) (h4 : z < 18446744073709551616) :
    OwnT ((w.setCell ⟨R, j * 2, none⟩ (.float .f64 y)).setCell ⟨R, j * 2 + 1, none⟩ (.float .f64 z)) base R n cap (updN F j p) := by
  obtain ⟨rs, g1, g2⟩ := h
  have hl := g1.1
  refine ⟨(rs.set (j * 2) (.float .f64 y)).set (j * 2 + 1) (.float .f64 z), ((g1.stored _ _).1.stored _ _).1, fun i hi => ?_⟩
  by_cases e : i = j
  · subst e
    rw [updN_at]
    exact ⟨⟨y, by rw [List.getElem?_set_ne (by omega), List.getElem?_set_self (by omega)], h1, h2⟩, ⟨z, by rw [List.getElem?_set_self (by rw [List.length_set]; omega)], h3, h4⟩⟩
  · rw [updN_ne _ _ e, List.getElem?_set_ne (by omega), List.getElem?_set_ne (by omega), List.getElem?_set_ne (by omega), List.getElem?_set_ne (by omega)]
    exact g2 i hi
theorem OwnT.other {w : World} {base R n cap : Nat} {F : Nat → Nat × Nat} (h : OwnT w base R n cap F) {B o : Nat} (hne : B ≠ R) (v : Value) : OwnT (w.setCell ⟨B, o, none⟩ v) base R n cap F :=
  h.kept (Below.heap_setCell _ _ _ _ (fun e => hne (by simpa using e.symm)))
theorem madeT_get (n j : Nat) (hj : j < n * 2) : (madeCells #[Value.float .f64 0, .float .f64 0] (n * 2)).toList[j]? = some (.float .f64 0) := by
  have e : j % 2 = 0 ∨ j % 2 = 1 := by omega
  rcases e with e | e <;> simp [madeCells, hj, e]
theorem ownT_made {w : World} {base R n : Nat} (h : w.ownsRow base 53 2 (.slice (some ⟨R, 0, none⟩) n n) n (madeCells #[Value.float .f64 0, .float .f64 0] (n * 2)).toList) : OwnT w base R n n fun _ => (0, 0) :=
  ⟨_, h, fun j hj => ⟨⟨0, madeT_get n _ (by omega), rfl, by decide⟩, ⟨0, madeT_get n _ (by omega), rfl, by decide⟩⟩⟩
/-- A slice that reads as these from-tos. -/
def TRow (w : World) (v : Value) (n : Nat) (F : Nat → Nat × Nat) : Prop :=
  ∃ a cap, v = .slice a n cap ∧ n ≤ 9223372036854775807 ∧ (0 < n → ∃ b off, a = some ⟨b, off, none⟩ ∧ b < w.heap.size ∧ ∀ i, i < n → FCell w b (off + i * 2) (F i).1 ∧ FCell w b (off + i * 2 + 1) (F i).2)
theorem TRow.below {w w' : World} {v : Value} {n : Nat} {F : Nat → Nat × Nat} (h : TRow w v n F) (hb : Below w.heap.size w w') : TRow w' v n F := by
  obtain ⟨a, cap, h1, h2, h3⟩ := h
  refine ⟨a, cap, h1, h2, fun hl => ?_⟩
  obtain ⟨b, off, e, hs, hc⟩ := h3 hl
  exact ⟨b, off, e, Nat.lt_of_lt_of_le hs hb.size, fun i hi => ⟨(hc i hi).1.same ((haCell hb).1 _ _ hs), (hc i hi).2.same ((haCell hb).1 _ _ hs)⟩⟩
theorem OwnT.row {w : World} {base R n cap : Nat} {F : Nat → Nat × Nat} (h : OwnT w base R n cap F) (hn : n ≤ 9223372036854775807) : TRow w (.slice (some ⟨R, 0, none⟩) n cap) n F :=
  ⟨_, cap, rfl, hn, fun _ => ⟨R, 0, rfl, h.lt.2, fun i hi => by rw [Nat.zero_add]; exact h.cell hi⟩⟩
theorem addP_canon {a b c d p q r s : Nat} (h1 : canon a = p) (h2 : canon b = q) (h3 : canon c = r) (h4 : canon d = s) : addP a b c d = addP p q r s := by
  subst h1 h2 h3 h4
  unfold addP
  rw [cop_canon, cop_canon]
theorem subP_canon {a b c d p q r s : Nat} (h1 : canon a = p) (h2 : canon b = q) (h3 : canon c = r) (h4 : canon d = s) : subP a b c d = subP p q r s := by
  subst h1 h2 h3 h4
  unfold subP
  rw [cop_canon, cop_canon]
theorem mulP_canon {a b c d p q r s : Nat} (h1 : canon a = p) (h2 : canon b = q) (h3 : canon c = r) (h4 : canon d = s) : mulP a b c d = mulP p q r s := by
  subst h1 h2 h3 h4
  unfold mulP
  rw [cop_canon, cop_canon, cop_canon, cop_canon]
theorem addP_self (a b c d : Nat) : canon (addP a b c d).1 = (addP a b c d).1 ∧ canon (addP a b c d).2 = (addP a b c d).2 := ⟨canon_num (outP_num _ _).1, canon_num (outP_num _ _).2⟩
theorem subP_self (a b c d : Nat) : canon (subP a b c d).1 = (subP a b c d).1 ∧ canon (subP a b c d).2 = (subP a b c d).2 := ⟨canon_num (outP_num _ _).1, canon_num (outP_num _ _).2⟩
theorem mulP_self (a b c d : Nat) : canon (mulP a b c d).1 = (mulP a b c d).1 ∧ canon (mulP a b c d).2 = (mulP a b c d).2 := ⟨canon_num (aroundP_num _ _ _ _).1, canon_num (aroundP_num _ _ _ _).2⟩
/-- What is left of b, of the first so many numbers. -/
def leftW (r x : Nat → Nat) (b : Nat) : Nat → Nat × Nat
  | 0 => (b, b)
  | j + 1 => subP (leftW r x b j).1 (leftW r x b j).2 (mulP (r j) (r j) (x j) (x j)).1 (mulP (r j) (r j) (x j) (x j)).2
end Go.Proofs.Ytainodgbcpkipaa
