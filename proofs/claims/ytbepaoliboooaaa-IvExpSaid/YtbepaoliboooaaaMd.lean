/-
  How two floats stand to each other, as tests; the next float above and below. No condition but those in the statements.
-/
import Derived.Test.YtbepaoliboooaaaMc
namespace Go.Proofs.Ytbepaoliboooaaa
open Ieee (double)

def ltB (x y : Nat) : Bool := !isN x && !isN y && decide (key x < key y)
def eqB (x y : Nat) : Bool := !isN x && !isN y && decide (key x = key y)
def leB (x y : Nat) : Bool := !isN x && !isN y && decide (key x ≤ key y)

theorem cmp_is_lt {a b : Int} : (compare a b == .lt) = decide (a < b) := by
  rcases Int.lt_trichotomy a b with h | h | h
  · rw [cmp_lt h, decide_eq_true h]; rfl
  · rw [cmp_eq h, decide_eq_false (by omega)]; rfl
  · rw [cmp_gt h, decide_eq_false (by omega)]; rfl
theorem cmp_is_gt {a b : Int} : (compare a b == .gt) = decide (b < a) := by
  rcases Int.lt_trichotomy a b with h | h | h
  · rw [cmp_lt h, decide_eq_false (by omega)]; rfl
  · rw [cmp_eq h, decide_eq_false (by omega)]; rfl
  · rw [cmp_gt h, decide_eq_true h]; rfl
theorem cmp_is_eq {a b : Int} : (compare a b == .eq) = decide (a = b) := by
  rcases Int.lt_trichotomy a b with h | h | h
  · rw [cmp_lt h, decide_eq_false (by omega)]; rfl
  · rw [cmp_eq h, decide_eq_true h]; rfl
  · rw [cmp_gt h, decide_eq_false (by omega)]; rfl
theorem ord_any (x y : Nat) (o : Ordering) : (FloatKind.f64.format.order x y == some o) = (!isN x && !isN y && (compare (key x) (key y) == o)) := by
  show (double.order x y == some o) = _
  rw [order_eq]
  cases isN x <;> cases isN y <;> simp
theorem ord_lt (x y : Nat) : (FloatKind.f64.format.order x y == some .lt) = ltB x y := by rw [ord_any, cmp_is_lt]; rfl
theorem ord_eq (x y : Nat) : (FloatKind.f64.format.order x y == some .eq) = eqB x y := by rw [ord_any, cmp_is_eq]; rfl
theorem ord_gt (x y : Nat) : (FloatKind.f64.format.order x y == some .gt) = ltB y x := by
  rw [ord_any, cmp_is_gt]; unfold ltB; cases isN x <;> cases isN y <;> rfl
theorem ord_ne (x y : Nat) : (FloatKind.f64.format.order x y != some .eq) = !eqB x y := by rw [← ord_eq]; rfl
theorem ord_le (x y : Nat) : (ltB x y || eqB x y) = leB x y := by
  unfold ltB eqB leB
  cases isN x <;> cases isN y <;> simp
  rw [Bool.eq_iff_iff]; simp; omega
theorem ord_ge (x y : Nat) : (ltB y x || eqB x y) = leB y x := by
  unfold ltB eqB leB
  cases isN x <;> cases isN y <;> simp
  rw [Bool.eq_iff_iff]; simp; omega
theorem eqB_self (x : Nat) : eqB x x = !isN x := by unfold eqB; simp
theorem ltB_canon (x y : Nat) : ltB (canon x) (canon y) = ltB x y := by rw [← ord_lt, ← ord_lt]; show (double.order _ _ == _) = _; rw [order_canon]; rfl
theorem eqB_canon (x y : Nat) : eqB (canon x) (canon y) = eqB x y := by rw [← ord_eq, ← ord_eq]; show (double.order _ _ == _) = _; rw [order_canon]; rfl

theorem key_lo (x : Nat) : -(9223372036854775808 : Int) < key x ∧ key x < 9223372036854775808 := by
  unfold key p63; split <;> omega
theorem isN_false {x : Nat} (h : isN x = false) : x % p63 ≤ infR := by unfold isN at h; simpa using h
theorem isN_of_le {x : Nat} (h : x % p63 ≤ infR) : isN x = false := by unfold isN; simpa using h
theorem key_abs {x : Nat} (h : isN x = false) : -(infR : Int) ≤ key x ∧ key x ≤ infR := by
  have := isN_false h; unfold key; split <;> omega

def upB (x : Nat) : Nat := if isN x then nanB else if x = infR then x else if x % p63 = 0 then 1 else if neg x then x - 1 else x + 1
def downB (x : Nat) : Nat := if isN x then nanB else if x = p63 + infR then x else if x % p63 = 0 then p63 + 1 else if neg x then x + 1 else x - 1

theorem neg_true {x : Nat} (hx : x < 18446744073709551616) (h : neg x = true) : p63 ≤ x ∧ x % p63 = x - p63 ∧ key x = -((x % p63 : Nat) : Int) := by
  have h' : x / p63 % 2 = 1 := by simpa [neg] using h
  refine ⟨by unfold p63 at *; omega, by unfold p63 at *; omega, by unfold key; rw [if_pos h']⟩
theorem neg_false {x : Nat} (hx : x < 18446744073709551616) (h : neg x = false) : x < p63 ∧ x % p63 = x ∧ key x = (x : Int) := by
  have h' : ¬ x / p63 % 2 = 1 := by simpa [neg] using h
  refine ⟨by unfold p63 at *; omega, by unfold p63 at *; omega, ?_⟩
  unfold key; rw [if_neg h']; unfold p63 at *; omega

theorem of_key {x y : Nat} (hx : x < 18446744073709551616) (hy : y < 18446744073709551616) (h : key x = key y) : x = y ∨ (x % p63 = 0 ∧ y % p63 = 0) := by
  cases h1 : neg x <;> cases h2 : neg y
  · have := neg_false hx h1; have := neg_false hy h2; omega
  · have := neg_false hx h1; have := neg_true hy h2; unfold p63 at *; omega
  · have := neg_true hx h1; have := neg_false hy h2; unfold p63 at *; omega
  · have := neg_true hx h1; have := neg_true hy h2; unfold p63 at *; omega

theorem up_key {x : Nat} (hx : x < 18446744073709551616) (h : isN x = false) : key (upB x) = (if key x = infR then key x else key x + 1) ∧ isN (upB x) = false ∧ upB x < 18446744073709551616 := by
  have hr := isN_false h
  unfold upB
  rw [h]; simp only [Bool.false_eq_true, if_false]
  by_cases h1 : x = infR
  · subst h1; rw [if_pos rfl]; decide
  rw [if_neg h1]
  by_cases h2 : x % p63 = 0
  · rw [if_pos h2]
    have : key x = 0 := by unfold key; rw [h2]; simp
    rw [this]; decide
  rw [if_neg h2]
  cases hn : neg x
  · obtain ⟨a, b, c⟩ := neg_false hx hn
    simp only [Bool.false_eq_true, if_false]
    have d : (x + 1) / p63 = 0 ∧ (x + 1) % p63 = x + 1 := by unfold p63 infR at *; omega
    refine ⟨?_, ?_, by unfold p63 at a; omega⟩
    · rw [c, if_neg (by omega)]; unfold key; rw [d.1, d.2]; simp
    · apply isN_of_le; rw [d.2]; omega
  · obtain ⟨a, b, c⟩ := neg_true hx hn
    simp only [if_true]
    have d : (x - 1) / p63 = 1 ∧ (x - 1) % p63 = x - 1 - p63 := by unfold p63 infR at *; omega
    refine ⟨?_, ?_, by omega⟩
    · rw [c, if_neg (by unfold infR; omega)]; unfold key; rw [d.1, d.2]; simp; omega
    · apply isN_of_le; rw [d.2]; omega
theorem down_key {x : Nat} (hx : x < 18446744073709551616) (h : isN x = false) : key (downB x) = (if key x = -(infR : Int) then key x else key x - 1) ∧ isN (downB x) = false ∧ downB x < 18446744073709551616 := by
  have hr := isN_false h
  unfold downB
  rw [h]; simp only [Bool.false_eq_true, if_false]
  by_cases h1 : x = p63 + infR
  · subst h1; rw [if_pos rfl]; decide
  rw [if_neg h1]
  by_cases h2 : x % p63 = 0
  · rw [if_pos h2]
    have : key x = 0 := by unfold key; rw [h2]; simp
    rw [this]; decide
  rw [if_neg h2]
  cases hn : neg x
  · obtain ⟨a, b, c⟩ := neg_false hx hn
    simp only [Bool.false_eq_true, if_false]
    have d : (x - 1) / p63 = 0 ∧ (x - 1) % p63 = x - 1 := by unfold p63 infR at *; omega
    refine ⟨?_, ?_, by omega⟩
    · rw [c, if_neg (by unfold infR; omega)]; unfold key; rw [d.1, d.2]; simp; omega
    · apply isN_of_le; rw [d.2]; omega
  · obtain ⟨a, b, c⟩ := neg_true hx hn
    simp only [if_true]
    have d : (x + 1) / p63 = 1 ∧ (x + 1) % p63 = x + 1 - p63 := by unfold p63 infR at *; omega
    refine ⟨?_, ?_, by unfold p63 infR at *; omega⟩
    · rw [c, if_neg (by unfold p63 infR at *; omega)]; unfold key; rw [d.1, d.2]; simp; omega
    · apply isN_of_le; rw [d.2]; unfold p63 infR at *; omega

/-- What 'Scale' gives. -/
def ldexpB (x : Nat) (k : Int) : Nat := if x % p63 = 0 ∨ infR ≤ x % p63 then x else double.word (neg x) (rungOf (U (x % p63)) (k - 1074))

end Go.Proofs.Ytbepaoliboooaaa
