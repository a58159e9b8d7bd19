/-
  Plain facts of 64-bit floats as words: how two stand to each other, by their rungs with signs; which words are no numbers. No condition but those in the statements.
-/
import Ieee.Arith
import Derived.Laws.FloatBits
namespace Go.Proofs.Ytbepaoliboooaaa
open Ieee (double)

def infR : Nat := 9218868437227405312
def p63 : Nat := 9223372036854775808
def p52 : Nat := 4503599627370496
/-- Is it no number? -/
def isN (x : Nat) : Bool := decide (infR < x % p63)
/-- Its rung, with its sign. -/
def key (x : Nat) : Int := if x / p63 % 2 = 1 then -((x % p63 : Nat) : Int) else ((x % p63 : Nat) : Int)
/-- What the rung stands for, in units of the least. -/
def U (r : Nat) : Nat := if r < p52 then r else (p52 + r % p52) * 2 ^ (r / p52 - 1)

theorem U_mono {r s : Nat} (h : r < s) : U r < U s := by
  unfold U
  by_cases h1 : s < p52
  · rw [if_pos (by omega), if_pos h1]; exact h
  · rw [if_neg h1]
    have hp : 0 < 2 ^ (s / p52 - 1) := Nat.two_pow_pos _
    have hbase : p52 * 2 ^ (s / p52 - 1) ≤ (p52 + s % p52) * 2 ^ (s / p52 - 1) := Nat.mul_le_mul_right _ (by omega)
    by_cases h2 : r < p52
    · rw [if_pos h2]
      have : p52 * 1 ≤ p52 * 2 ^ (s / p52 - 1) := Nat.mul_le_mul_left _ hp
      omega
    · rw [if_neg h2]
      have hle : r / p52 ≤ s / p52 := Nat.div_le_div_right (Nat.le_of_lt h)
      by_cases he : r / p52 = s / p52
      · rw [he]
        apply Nat.mul_lt_mul_of_pos_right _ hp
        have := Nat.div_add_mod r p52; have := Nat.div_add_mod s p52
        rw [he] at *; omega
      · have hr : r % p52 < p52 := Nat.mod_lt _ (by decide)
        have h1r : 1 ≤ r / p52 := (Nat.one_le_div_iff (by decide)).2 (by omega)
        have a1 : (p52 + r % p52) * 2 ^ (r / p52 - 1) < (p52 * 2) * 2 ^ (r / p52 - 1) := Nat.mul_lt_mul_of_pos_right (by omega) (Nat.two_pow_pos _)
        have a2 : (p52 * 2) * 2 ^ (r / p52 - 1) ≤ p52 * 2 ^ (s / p52 - 1) := by
          rw [Nat.mul_assoc, ← Nat.pow_succ']
          exact Nat.mul_le_mul_left _ (Nat.pow_le_pow_right (by decide) (by omega))
        omega

theorem U_lt {r s : Nat} : U r < U s ↔ r < s :=
  ⟨fun h => by
    rcases Nat.lt_trichotomy r s with g | g | g
    · exact g
    · subst g; omega
    · have := U_mono g; omega, U_mono⟩
theorem U_inj {r s : Nat} (h : U r = U s) : r = s := by
  rcases Nat.lt_trichotomy r s with g | g | g
  · have := U_mono g; omega
  · exact g
  · have := U_mono g; omega
theorem U_zero : U 0 = 0 := by decide

/-- With a sign. -/
def sgd (n : Bool) (m : Nat) : Int := if n then -(m : Int) else m
def neg (x : Nat) : Bool := x / p63 % 2 == 1
theorem key_eq (x : Nat) : key x = sgd (neg x) (x % p63) := by
  unfold key sgd neg; by_cases h : x / p63 % 2 = 1 <;> simp [h]
/-- What a finite word stands for, in units of the least. -/
def V (x : Nat) : Int := sgd (neg x) (U (x % p63))
theorem signed_eq (n : Bool) (m k : Nat) : Ieee.signed n m k = sgd n (m * 2 ^ k) := by
  unfold Ieee.signed sgd; simp only [Nat.shiftLeft_eq]
theorem sgd_mul (n : Bool) (m k : Nat) : sgd n (m * k) = sgd n m * k := by
  unfold sgd; cases n <;> simp [Int.neg_mul]

/-- A finite word is read as a number that is V, a place above the least. -/
theorem read_fin {x : Nat} (h : x % p63 < infR) : ∃ m : Nat, ∃ p : Int, double.read x = .number (neg x) m p ∧ -1074 ≤ p ∧ m * 2 ^ (p + 1074).toNat = U (x % p63) := by
  unfold Ieee.Format.read
  have e1 : double.signWeight = p63 := by decide
  have e2 : double.binade = p52 := by decide
  have e3 : double.infRung = infR := by decide
  have e4 : double.leastPlace = -1074 := by decide
  simp only [e1, e2, e3, e4]
  by_cases h1 : x % p63 < p52
  · exact ⟨x % p63, -1074, by rw [if_pos h1]; rfl, by omega, by simp [U, h1]⟩
  · refine ⟨p52 + x % p63 % p52, -1074 + ((x % p63 / p52 - 1 : Nat) : Int), by rw [if_neg h1, if_pos h]; rfl, by omega, ?_⟩
    rw [show ((-1074 : Int) + ((x % p63 / p52 - 1 : Nat) : Int) + 1074).toNat = x % p63 / p52 - 1 by omega]
    simp [U, h1]
theorem read_inf {x : Nat} (h : x % p63 = infR) : double.read x = .infinity (neg x) := by
  unfold Ieee.Format.read
  have e1 : double.signWeight = p63 := by decide
  have e2 : double.binade = p52 := by decide
  have e3 : double.infRung = infR := by decide
  simp only [e1, e2, e3, h]
  rfl
theorem read_nan {x : Nat} (h : infR < x % p63) : double.read x = .nan (neg x) (x % p63 - infR) := by
  unfold Ieee.Format.read
  have e1 : double.signWeight = p63 := by decide
  have e2 : double.binade = p52 := by decide
  have e3 : double.infRung = infR := by decide
  simp only [e1, e2, e3]
  rw [if_neg (by unfold p52; unfold infR at h; omega), if_neg (by omega), if_neg (by omega)]
  rfl

theorem compare_of {a b c d : Int} (h1 : a < b ↔ c < d) (h2 : a = b ↔ c = d) : compare a b = compare c d := by
  simp only [compare, compareOfLessAndEq, h1, h2]

theorem cmp_lt {a b : Int} (h : a < b) : compare a b = .lt := by simp [compare, compareOfLessAndEq, h]
theorem cmp_gt {a b : Int} (h : b < a) : compare a b = .gt := by
  simp only [compare, compareOfLessAndEq]; rw [if_neg (by omega), if_neg (by omega)]
theorem cmp_eq {a b : Int} (h : a = b) : compare a b = .eq := by
  simp only [compare, compareOfLessAndEq]; rw [if_neg (by omega), if_pos h]

theorem sgd_lt {n m : Bool} {a b : Nat} : sgd n (U a) < sgd m (U b) ↔ sgd n a < sgd m b := by
  have h := @U_lt a b; have h' := @U_lt b a
  have z : ∀ r, U r = 0 ↔ r = 0 := fun r => ⟨fun e => U_inj (e.trans U_zero.symm), fun e => by rw [e, U_zero]⟩
  have za := z a; have zb := z b
  unfold sgd; cases n <;> cases m <;> simp <;> omega
theorem sgd_eq {n m : Bool} {a b : Nat} : sgd n (U a) = sgd m (U b) ↔ sgd n a = sgd m b := by
  have h := @sgd_lt n m a b; have h' := @sgd_lt m n b a
  omega

theorem sum_scale (s t : Bool) (m n : Nat) (i j : Int) (hi : -1074 ≤ i) (hj : -1074 ≤ j) :
    sgd s (m * 2 ^ (i + 1074).toNat) = Ieee.signed s m (i - min i j).toNat * (2 ^ (min i j + 1074).toNat : Nat) ∧ sgd t (n * 2 ^ (j + 1074).toNat) = Ieee.signed t n (j - min i j).toNat * (2 ^ (min i j + 1074).toNat : Nat) := by
  rw [signed_eq, signed_eq, ← sgd_mul, ← sgd_mul, Nat.mul_assoc, Nat.mul_assoc, ← Nat.pow_add, ← Nat.pow_add]
  rw [show (i - min i j).toNat + (min i j + 1074).toNat = (i + 1074).toNat by omega, show (j - min i j).toNat + (min i j + 1074).toNat = (j + 1074).toNat by omega]
  exact ⟨rfl, rfl⟩

theorem order_eq (x y : Nat) : double.order x y = if isN x || isN y then none else some (compare (key x) (key y)) := by
  unfold Ieee.Format.order isN
  rcases Nat.lt_trichotomy (x % p63) infR with hx | hx | hx <;> rcases Nat.lt_trichotomy (y % p63) infR with hy | hy | hy
  · obtain ⟨m, i, e1, hi, e2⟩ := read_fin hx
    obtain ⟨n, j, e3, hj, e4⟩ := read_fin hy
    rw [e1, e3, if_neg (by simp; omega)]
    simp only [Ieee.Datum.order]
    have hs := sum_scale (neg x) (neg y) m n i j hi hj
    have hp : (0 : Int) < (2 ^ (min i j + 1074).toNat : Nat) := by have := Nat.two_pow_pos (min i j + 1074).toNat; omega
    congr 1
    rw [key_eq, key_eq]
    apply compare_of
    · rw [← sgd_lt, ← e2, ← e4, hs.1, hs.2]
      exact ⟨fun h => Int.mul_lt_mul_of_pos_right h hp, fun h => Int.lt_of_mul_lt_mul_right h (Int.le_of_lt hp)⟩
    · rw [← sgd_eq, ← e2, ← e4, hs.1, hs.2]
      exact ⟨fun h => by rw [h], fun h => Int.eq_of_mul_eq_mul_right (by omega) h⟩
  · obtain ⟨m, i, e1, hi, e2⟩ := read_fin hx
    rw [e1, read_inf hy, if_neg (by simp; omega), key_eq, key_eq]
    simp only [Ieee.Datum.order, hy]
    congr 1
    unfold sgd
    generalize x % p63 = r at *
    cases neg y <;> cases neg x <;> simp only [if_true, if_false, Bool.false_eq_true] <;> symm <;> first | exact cmp_lt (by omega) | exact cmp_gt (by omega)
  · rw [read_nan hy, if_pos (by simp; omega)]
    obtain ⟨m, i, e1, hi, e2⟩ := read_fin hx
    rw [e1]; rfl
  · obtain ⟨m, i, e1, hi, e2⟩ := read_fin hy
    rw [e1, read_inf hx, if_neg (by simp; omega), key_eq, key_eq]
    simp only [Ieee.Datum.order, hx]
    congr 1
    unfold sgd
    generalize y % p63 = r at *
    cases neg y <;> cases neg x <;> simp only [if_true, if_false, Bool.false_eq_true] <;> symm <;> first | exact cmp_lt (by omega) | exact cmp_gt (by omega)
  · rw [read_inf hx, read_inf hy, if_neg (by simp; omega), key_eq, key_eq, hx, hy]
    cases neg y <;> cases neg x <;> decide
  · rw [read_nan hy, if_pos (by simp; omega), read_inf hx]; rfl
  · rw [read_nan hx, if_pos (by simp; omega)]; rfl
  · rw [read_nan hx, if_pos (by simp; omega)]; rfl
  · rw [read_nan hx, if_pos (by simp; omega)]; rfl

end Go.Proofs.Ytbepaoliboooaaa
