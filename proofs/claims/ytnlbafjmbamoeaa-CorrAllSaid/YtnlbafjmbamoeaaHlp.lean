/-
  Rows that are parted, solved: what numbers that gives. Plain functions.
-/
import Derived.Test.YtnlbafjmbamoeaaHa
namespace Go.Proofs.Ytnlbafjmbamoeaa
open Ieee (double)

/-- Without its sign. -/
def ab (x : Nat) : Nat := x % p63
theorem isN_ab (x : Nat) : isN (ab x) = isN x := by unfold isN ab; rw [Nat.mod_mod]
theorem canon_or (x : Nat) : canon x = x ∨ isN x = true := by
  unfold canon
  by_cases h : isN x = true
  · exact .inr h
  · rw [if_neg h]; exact .inl rfl
theorem ltB_nan {x y : Nat} (h : isN x = true ∨ isN y = true) : ltB x y = false := by
  unfold ltB
  rcases h with h | h <;> simp [h]
theorem ltB_ab {x y a b : Nat} (hx : canon x = a) (hy : canon y = b) : ltB (ab x) (ab y) = ltB (ab a) (ab b) := by
  subst hx hy
  rcases canon_or x with h | h
  · rcases canon_or y with g | g
    · rw [h, g]
    · rw [ltB_nan (.inr (by rw [isN_ab]; exact g)), ltB_nan (.inr (by rw [isN_ab, isN_canon]; exact g))]
  · rw [ltB_nan (.inl (by rw [isN_ab]; exact h)), ltB_nan (.inl (by rw [isN_ab, isN_canon]; exact h))]

/-- The best row of column k, of the first m below row k. -/
def pivF (f : Nat → Nat → Nat) (k : Nat) : Nat → Nat
  | 0 => k
  | m + 1 => if ltB (ab (f (pivF f k m) k)) (ab (f (k + 1 + m) k)) then k + 1 + m else pivF f k m
theorem pivF_le (f : Nat → Nat → Nat) (k : Nat) : ∀ m, k ≤ pivF f k m ∧ pivF f k m ≤ k + m
  | 0 => ⟨Nat.le_refl _, Nat.le_refl _⟩
  | m + 1 => by
    have := pivF_le f k m
    unfold pivF
    split <;> omega
/-- Two in each other's place. -/
def swp {α : Type} (f : Nat → α) (p k : Nat) : Nat → α := updN (updN f p (f k)) k (f p)
theorem swp_at2 {α : Type} (f : Nat → α) (p k : Nat) : swp f p k k = f p := updN_at _ _ _
theorem swp_at1 {α : Type} (f : Nat → α) (p k : Nat) : swp f p k p = f k := by
  unfold swp
  by_cases e : p = k
  · subst e; rw [updN_at]
  · rw [updN_ne _ _ e, updN_at]
theorem swp_ne {α : Type} (f : Nat → α) {p k i : Nat} (h1 : i ≠ p) (h2 : i ≠ k) : swp f p k i = f i := by unfold swp; rw [updN_ne _ _ h2, updN_ne _ _ h1]
/-- Row i, of which row k was taken so far as column j: the number in column k is by how much. -/
def clR (f : Nat → Nat → Nat) (k i m : Nat) : Nat → Nat := fun j =>
  if j = k then cop .quo (f i k) (f k k) else if k < j ∧ j < m then cop .sub (f i j) (cop .mul (cop .quo (f i k) (f k k)) (f k j)) else f i j
/-- The table, of which the rows below k and ahead of i are cleared. -/
def clF (f : Nat → Nat → Nat) (k n i : Nat) : Nat → Nat → Nat := fun a => if k < a ∧ a < i then clR f k a n else f a
/-- Whether a number can be divided by. -/
def dvB (c : Nat) : Bool := !eqB c 0 && finB c
/-- The rows parted up to column k, and in which order they are; none, if a column leaves nothing. -/
def partF (f : Nat → Nat → Nat) (n : Nat) : Nat → Option ((Nat → Nat → Nat) × (Nat → Nat))
  | 0 => some (f, fun i => i)
  | k + 1 => match partF f n k with
    | none => none
    | some (g, q) => let p := pivF g k (n - 1 - k)
      if dvB (g p k) then some (clF (swp g p k) k n n, swp q p k) else none
/-- The first j taken away. -/
def subsF (r x : Nat → Nat) (b : Nat) : Nat → Nat
  | 0 => b
  | j + 1 => cop .sub (subsF r x b j) (cop .mul (r j) (x j))
theorem subsF_congr {r s x y : Nat → Nat} {b : Nat} : ∀ {m : Nat}, (∀ j, j < m → r j = s j ∧ x j = y j) → subsF r x b m = subsF s y b m
  | 0, _ => rfl
  | m + 1, h => by unfold subsF; rw [subsF_congr fun j hj => h j (by omega), (h m (by omega)).1, (h m (by omega)).2]
/-- Down the rows. -/
def fwL (f : Nat → Nat → Nat) (b : Nat → Nat) : Nat → List Nat
  | 0 => []
  | i + 1 => fwL f b i ++ [subsF (f i) (fun j => (fwL f b i).getD j 0) (b i) i]
def fwF (f : Nat → Nat → Nat) (b : Nat → Nat) (i : Nat) : Nat := subsF (f i) (fun j => (fwL f b i).getD j 0) (b i) i
theorem fwL_len (f : Nat → Nat → Nat) (b : Nat → Nat) : ∀ i, (fwL f b i).length = i
  | 0 => rfl
  | i + 1 => by rw [fwL, List.length_append, fwL_len f b i]; rfl
theorem fwL_get (f : Nat → Nat → Nat) (b : Nat → Nat) {j : Nat} : ∀ {i : Nat}, j < i → (fwL f b i).getD j 0 = fwF f b j
  | i + 1, h => by
    have hl := fwL_len f b i
    rw [fwL]
    by_cases e : j = i
    · subst e
      unfold fwF
      simp [List.getD, hl]
    · have : ∀ y, (fwL f b i ++ [y]).getD j 0 = (fwL f b i).getD j 0 := fun y => by simp [List.getD, List.getElem?_append_left (show j < (fwL f b i).length by omega)]
      rw [this]
      exact fwL_get f b (by omega)
theorem fwF_eq (f : Nat → Nat → Nat) (b : Nat → Nat) (i : Nat) : fwF f b i = subsF (f i) (fwF f b) (b i) i := by
  unfold fwF
  exact subsF_congr fun j hj => ⟨rfl, fwL_get f b hj⟩
/-- Up the rows: what the first d of them, from the last one on, tell: the one of i at n - 1 - i. -/
def bkL (f : Nat → Nat → Nat) (n : Nat) (b : Nat → Nat) : Nat → List Nat
  | 0 => []
  | d + 1 => bkL f n b d ++ [cop .quo (subsF (fun j => f (n - 1 - d) (n - d + j)) (fun j => (bkL f n b d).getD (d - 1 - j) 0) (b (n - 1 - d)) d) (f (n - 1 - d) (n - 1 - d))]
def bkF (f : Nat → Nat → Nat) (n : Nat) (b : Nat → Nat) (i : Nat) : Nat := (bkL f n b n).getD (n - 1 - i) 0
theorem bkL_len (f : Nat → Nat → Nat) (n : Nat) (b : Nat → Nat) : ∀ i, (bkL f n b i).length = i
  | 0 => rfl
  | i + 1 => by rw [bkL, List.length_append, bkL_len f n b i]; rfl
theorem bkL_more (f : Nat → Nat → Nat) (n : Nat) (b : Nat → Nat) {j d : Nat} (h : j < d) : ∀ {e : Nat}, d ≤ e → (bkL f n b e).getD j 0 = (bkL f n b d).getD j 0
  | 0, g => by omega
  | e + 1, g => by
    by_cases q : d = e + 1
    · subst q; rfl
    · rw [← bkL_more f n b h (show d ≤ e by omega)]
      have hl := bkL_len f n b e
      rw [bkL]
      simp [List.getD, List.getElem?_append_left (show j < (bkL f n b e).length by omega)]
theorem bkF_eq (f : Nat → Nat → Nat) (n : Nat) (b : Nat → Nat) {i : Nat} (hi : i < n) : bkF f n b i = cop .quo (subsF (fun j => f i (i + 1 + j)) (fun j => bkF f n b (i + 1 + j)) (b i) (n - 1 - i)) (f i i) := by
  have e1 : n - 1 - (n - 1 - i) = i := by omega
  have e2 : bkF f n b i = (bkL f n b (n - 1 - i + 1)).getD (n - 1 - i) 0 := by
    unfold bkF
    exact bkL_more f n b (by omega) (by omega)
  have hl := bkL_len f n b (n - 1 - i)
  rw [e2, bkL]
  simp only [List.getD, List.getElem?_append_right (show (bkL f n b (n - 1 - i)).length ≤ n - 1 - i by omega), hl, Nat.sub_self, List.getElem?_cons_zero, Option.getD_some, e1]
  congr 1
  refine subsF_congr fun j hj => ⟨by rw [show n - (n - 1 - i) + j = i + 1 + j by omega], ?_⟩
  have := bkL_more f n b (j := n - 1 - i - 1 - j) (d := n - 1 - i) (by omega) (e := n) (by omega)
  simp only [List.getD] at this ⊢
  rw [← this]
  unfold bkF
  rw [show n - 1 - (i + 1 + j) = n - 1 - i - 1 - j by omega]
  rfl
def solveF (f : Nat → Nat → Nat) (n : Nat) (b : Nat → Nat) : Nat → Nat := bkF f n (fwF f b)
end Go.Proofs.Ytnlbafjmbamoeaa
