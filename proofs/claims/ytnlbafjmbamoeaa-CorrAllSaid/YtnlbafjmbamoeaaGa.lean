/-
  Plain facts of 64-bit floats as words: how two stand to each other, by their rungs with signs; which words are no numbers. No condition but those in the statements.
  Plain facts of rounding to 64-bit floats: a greater number is rounded to no lesser one; a number that is a float is rounded to itself; what scales alike is rounded alike. No condition but those in the statements.
-/
import Ieee.Arith
import Derived.Laws.FloatBits
namespace Go.Proofs.Ytnlbafjmbamoeaa
open Ieee (double)

def infR : Nat := 9218868437227405312
def p63 : Nat := 9223372036854775808
def p52 : Nat := 4503599627370496
/-- Is it no number? -/
def isN (x : Nat) : Bool := decide (infR < x % p63)
/-- Its rung, with its sign. -/
def key (x : Nat) : Int := if x / p63 % 2 = 1 then -((x % p63 : Nat) : Int) else ((x % p63 : Nat) : Int)
/-- What the rung stands for, in units of the least. -/
def U (r : Nat) : Nat := if r < p52 then r else (p52 + r % p52) * 2 ^ (r / p52 - 1)

theorem U_mono {r s : Nat} (h : r < s) : U r < U s := by
  unfold U
  by_cases h1 : s < p52
  · rw [if_pos (by omega), if_pos h1]; exact h
  · rw [if_neg h1]
    have hp : 0 < 2 ^ (s / p52 - 1) := Nat.two_pow_pos _
    have hbase : p52 * 2 ^ (s / p52 - 1) ≤ (p52 + s % p52) * 2 ^ (s / p52 - 1) := Nat.mul_le_mul_right _ (by omega)
    by_cases h2 : r < p52
    · rw [if_pos h2]
      have : p52 * 1 ≤ p52 * 2 ^ (s / p52 - 1) := Nat.mul_le_mul_left _ hp
      omega
    · rw [if_neg h2]
      have hle : r / p52 ≤ s / p52 := Nat.div_le_div_right (Nat.le_of_lt h)
      by_cases he : r / p52 = s / p52
      · rw [he]
        apply Nat.mul_lt_mul_of_pos_right _ hp
        have := Nat.div_add_mod r p52; have := Nat.div_add_mod s p52
        rw [he] at *; omega
      · have hr : r % p52 < p52 := Nat.mod_lt _ (by decide)
        have h1r : 1 ≤ r / p52 := (Nat.one_le_div_iff (by decide)).2 (by omega)
        have a1 : (p52 + r % p52) * 2 ^ (r / p52 - 1) < (p52 * 2) * 2 ^ (r / p52 - 1) := Nat.mul_lt_mul_of_pos_right (by omega) (Nat.two_pow_pos _)
        have a2 : (p52 * 2) * 2 ^ (r / p52 - 1) ≤ p52 * 2 ^ (s / p52 - 1) := by
          rw [Nat.mul_assoc, ← Nat.pow_succ']
          exact Nat.mul_le_mul_left _ (Nat.pow_le_pow_right (by decide) (by omega))
        omega

theorem U_lt {r s : Nat} : U r < U s ↔ r < s :=
  ⟨fun h => by
    rcases Nat.lt_trichotomy r s with g | g | g
    · exact g
    · subst g; omega
    · have := U_mono g; omega, U_mono⟩
theorem U_inj {r s : Nat} (h : U r = U s) : r = s := by
  rcases Nat.lt_trichotomy r s with g | g | g
  · have := U_mono g; omega
  · exact g
  · have := U_mono g; omega
theorem U_zero : U 0 = 0 := by decide

/-- With a sign. -/
def sgd (n : Bool) (m : Nat) : Int := if n then -(m : Int) else m
def neg (x : Nat) : Bool := x / p63 % 2 == 1
theorem key_eq (x : Nat) : key x = sgd (neg x) (x % p63) := by
  unfold key sgd neg; by_cases h : x / p63 % 2 = 1 <;> simp [h]
/-- What a finite word stands for, in units of the least. -/
def V (x : Nat) : Int := sgd (neg x) (U (x % p63))
theorem signed_eq (n : Bool) (m k : Nat) : Ieee.signed n m k = sgd n (m * 2 ^ k) := by
  unfold Ieee.signed sgd; simp only [Nat.shiftLeft_eq]
theorem sgd_mul (n : Bool) (m k : Nat) : sgd n (m * k) = sgd n m * k := by
  unfold sgd; cases n <;> simp [Int.neg_mul]

/-- A finite word is read as a number that is V, a place above the least. -/
theorem read_fin {x : Nat} (h : x % p63 < infR) : ∃ m : Nat, ∃ p : Int, double.read x = .number (neg x) m p ∧ -1074 ≤ p ∧ m * 2 ^ (p + 1074).toNat = U (x % p63) := by
  unfold Ieee.Format.read
  have e1 : double.signWeight = p63 := by decide
  have e2 : double.binade = p52 := by decide
  have e3 : double.infRung = infR := by decide
  have e4 : double.leastPlace = -1074 := by decide
  simp only [e1, e2, e3, e4]
  by_cases h1 : x % p63 < p52
  · exact ⟨x % p63, -1074, by rw [if_pos h1]; rfl, by omega, by simp [U, h1]⟩
  · refine ⟨p52 + x % p63 % p52, -1074 + ((x % p63 / p52 - 1 : Nat) : Int), by rw [if_neg h1, if_pos h]; rfl, by omega, ?_⟩
    rw [show ((-1074 : Int) + ((x % p63 / p52 - 1 : Nat) : Int) + 1074).toNat = x % p63 / p52 - 1 by omega]
    simp [U, h1]
theorem read_inf {x : Nat} (h : x % p63 = infR) : double.read x = .infinity (neg x) := by
  unfold Ieee.Format.read
  have e1 : double.signWeight = p63 := by decide
  have e2 : double.binade = p52 := by decide
  have e3 : double.infRung = infR := by decide
  simp only [e1, e2, e3, h]
  rfl
theorem read_nan {x : Nat} (h : infR < x % p63) : double.read x = .nan (neg x) (x % p63 - infR) := by
  unfold Ieee.Format.read
  have e1 : double.signWeight = p63 := by decide
  have e2 : double.binade = p52 := by decide
  have e3 : double.infRung = infR := by decide
  simp only [e1, e2, e3]
  rw [if_neg (by unfold p52; unfold infR at h; omega), if_neg (by omega), if_neg (by omega)]
  rfl

theorem compare_of {a b c d : Int} (h1 : a < b ↔ c < d) (h2 : a = b ↔ c = d) : compare a b = compare c d := by
  simp only [compare, compareOfLessAndEq, h1, h2]

theorem cmp_lt {a b : Int} (h : a < b) : compare a b = .lt := by simp [compare, compareOfLessAndEq, h]
theorem cmp_gt {a b : Int} (h : b < a) : compare a b = .gt := by
  simp only [compare, compareOfLessAndEq]; rw [if_neg (by omega), if_neg (by omega)]
theorem cmp_eq {a b : Int} (h : a = b) : compare a b = .eq := by
  simp only [compare, compareOfLessAndEq]; rw [if_neg (by omega), if_pos h]

theorem sgd_lt {n m : Bool} {a b : Nat} : sgd n (U a) < sgd m (U b) ↔ sgd n a < sgd m b := by
  have h := @U_lt a b; have h' := @U_lt b a
  have z : ∀ r, U r = 0 ↔ r = 0 := fun r => ⟨fun e => U_inj (e.trans U_zero.symm), fun e => by rw [e, U_zero]⟩
  have za := z a; have zb := z b
  unfold sgd; cases n <;> cases m <;> simp <;> omega
theorem sgd_eq {n m : Bool} {a b : Nat} : sgd n (U a) = sgd m (U b) ↔ sgd n a = sgd m b := by
  have h := @sgd_lt n m a b; have h' := @sgd_lt m n b a
  omega

theorem sum_scale (s t : Bool) (m n : Nat) (i j : Int) (hi : -1074 ≤ i) (hj : -1074 ≤ j) :
    sgd s (m * 2 ^ (i + 1074).toNat) = Ieee.signed s m (i - min i j).toNat * (2 ^ (min i j + 1074).toNat : Nat) ∧ sgd t (n * 2 ^ (j + 1074).toNat) = Ieee.signed t n (j - min i j).toNat * (2 ^ (min i j + 1074).toNat : Nat) := by
  rw [signed_eq, signed_eq, ← sgd_mul, ← sgd_mul, Nat.mul_assoc, Nat.mul_assoc, ← Nat.pow_add, ← Nat.pow_add]
  rw [show (i - min i j).toNat + (min i j + 1074).toNat = (i + 1074).toNat by omega, show (j - min i j).toNat + (min i j + 1074).toNat = (j + 1074).toNat by omega]
  exact ⟨rfl, rfl⟩

theorem order_eq (x y : Nat) : double.order x y = if isN x || isN y then none else some (compare (key x) (key y)) := by
  unfold Ieee.Format.order isN
  rcases Nat.lt_trichotomy (x % p63) infR with hx | hx | hx <;> rcases Nat.lt_trichotomy (y % p63) infR with hy | hy | hy
  · obtain ⟨m, i, e1, hi, e2⟩ := read_fin hx
    obtain ⟨n, j, e3, hj, e4⟩ := read_fin hy
    rw [e1, e3, if_neg (by simp; omega)]
    simp only [Ieee.Datum.order]
    have hs := sum_scale (neg x) (neg y) m n i j hi hj
    have hp : (0 : Int) < (2 ^ (min i j + 1074).toNat : Nat) := by have := Nat.two_pow_pos (min i j + 1074).toNat; omega
    congr 1
    rw [key_eq, key_eq]
    apply compare_of
    · rw [← sgd_lt, ← e2, ← e4, hs.1, hs.2]
      exact ⟨fun h => Int.mul_lt_mul_of_pos_right h hp, fun h => Int.lt_of_mul_lt_mul_right h (Int.le_of_lt hp)⟩
    · rw [← sgd_eq, ← e2, ← e4, hs.1, hs.2]
      exact ⟨fun h => by rw [h], fun h => Int.eq_of_mul_eq_mul_right (by omega) h⟩
  · obtain ⟨m, i, e1, hi, e2⟩ := read_fin hx
    rw [e1, read_inf hy, if_neg (by simp; omega), key_eq, key_eq]
    simp only [Ieee.Datum.order, hy]
    congr 1
    unfold sgd
    generalize x % p63 = r at *
    cases neg y <;> cases neg x <;> simp only [if_true, if_false, Bool.false_eq_true] <;> symm <;> first | exact cmp_lt (by omega) | exact cmp_gt (by omega)
  · rw [read_nan hy, if_pos (by simp; omega)]
    obtain ⟨m, i, e1, hi, e2⟩ := read_fin hx
    rw [e1]; rfl
  · obtain ⟨m, i, e1, hi, e2⟩ := read_fin hy
    rw [e1, read_inf hx, if_neg (by simp; omega), key_eq, key_eq]
    simp only [Ieee.Datum.order, hx]
    congr 1
    unfold sgd
    generalize y % p63 = r at *
    cases neg y <;> cases neg x <;> simp only [if_true, if_false, Bool.false_eq_true] <;> symm <;> first | exact cmp_lt (by omega) | exact cmp_gt (by omega)
  · rw [read_inf hx, read_inf hy, if_neg (by simp; omega), key_eq, key_eq, hx, hy]
    cases neg y <;> cases neg x <;> decide
  · rw [read_nan hy, if_pos (by simp; omega), read_inf hx]; rfl
  · rw [read_nan hx, if_pos (by simp; omega)]; rfl
  · rw [read_nan hx, if_pos (by simp; omega)]; rfl
  · rw [read_nan hx, if_pos (by simp; omega)]; rfl

end Go.Proofs.Ytnlbafjmbamoeaa

namespace Go.Proofs.Ytnlbafjmbamoeaa
open Ieee (double)

/-- To the nearest whole multiple of 2^d, of two the even one. -/
def rne (n d : Nat) : Nat := n / 2 ^ d + (if 2 ^ d < 2 * (n % 2 ^ d) ∨ (2 ^ d = 2 * (n % 2 ^ d) ∧ n / 2 ^ d % 2 = 1) then 1 else 0)

theorem lt_pow_log (n : Nat) : n < 2 ^ (n.log2 + 1) := Nat.lt_log2_self
theorem pow_log_le {n : Nat} (h : n ≠ 0) : 2 ^ n.log2 ≤ n := Nat.log2_self_le h

theorem cut_eq (s : Bool) (n d : Nat) : Ieee.Toward.even.cut s n d = rne n d := by
  have key : ∀ g : Nat, (n / g + (decide (g < 2 * (n % g)) || (g == 2 * (n % g) && n / g % 2 == 1)).toNat) = n / g + (if g < 2 * (n % g) ∨ (g = 2 * (n % g) ∧ n / g % 2 = 1) then 1 else 0) := by
    intro g
    have e : (decide (g < 2 * (n % g)) || (g == 2 * (n % g) && n / g % 2 == 1)) = decide (g < 2 * (n % g) ∨ (g = 2 * (n % g) ∧ n / g % 2 = 1)) := by
      rw [Bool.eq_iff_iff]; simp
    rw [e]
    by_cases H : g < 2 * (n % g) ∨ (g = 2 * (n % g) ∧ n / g % 2 = 1)
    · rw [decide_eq_true H, if_pos H]; rfl
    · rw [decide_eq_false H, if_neg H]; rfl
  have h1 : Ieee.Toward.even.cut s n d = (n / (1 <<< min d (n.log2 + 2)) + (decide (1 <<< min d (n.log2 + 2) < 2 * (n % (1 <<< min d (n.log2 + 2)))) || (1 <<< min d (n.log2 + 2) == 2 * (n % (1 <<< min d (n.log2 + 2))) && n / (1 <<< min d (n.log2 + 2)) % 2 == 1)).toNat) := rfl
  rw [h1, key, Nat.shiftLeft_eq, Nat.one_mul]
  unfold rne
  by_cases h : d ≤ n.log2 + 2
  · rw [Nat.min_eq_left h]
  · rw [Nat.min_eq_right (by omega)]
    have a := lt_pow_log n
    have e2 : 2 ^ (n.log2 + 2) = 2 * 2 ^ (n.log2 + 1) := by rw [Nat.pow_succ' (n := n.log2 + 1)]
    have b : 2 ^ (n.log2 + 2) ≤ 2 ^ d := Nat.pow_le_pow_right (by decide) (by omega)
    have c1 : n < 2 ^ (n.log2 + 2) := by omega
    have c2 : n < 2 ^ d := by omega
    rw [Nat.div_eq_of_lt c1, Nat.div_eq_of_lt c2, Nat.mod_eq_of_lt c1, Nat.mod_eq_of_lt c2, if_neg (by omega), if_neg (by omega)]

theorem rne_zero (n : Nat) : rne n 0 = n := by
  unfold rne; simp [Nat.mod_one]

theorem rne_scale (n d k : Nat) : rne (n * 2 ^ k) (d + k) = rne n d := by
  unfold rne
  have hp : 0 < 2 ^ k := Nat.two_pow_pos _
  rw [Nat.pow_add, Nat.mul_div_mul_right _ _ hp, Nat.mul_mod_mul_right]
  have e1 : 2 ^ d * 2 ^ k < 2 * (n % 2 ^ d * 2 ^ k) ↔ 2 ^ d < 2 * (n % 2 ^ d) := by
    rw [← Nat.mul_assoc]; exact Nat.mul_lt_mul_right hp
  have e2 : 2 ^ d * 2 ^ k = 2 * (n % 2 ^ d * 2 ^ k) ↔ 2 ^ d = 2 * (n % 2 ^ d) := by
    rw [← Nat.mul_assoc]; exact Nat.mul_right_cancel_iff hp
  simp only [e1, e2]

theorem rne_le {m n : Nat} (d : Nat) (h : m ≤ n) : rne m d ≤ rne n d := by
  unfold rne
  have hp : 0 < 2 ^ d := Nat.two_pow_pos _
  have hq : m / 2 ^ d ≤ n / 2 ^ d := Nat.div_le_div_right h
  by_cases he : m / 2 ^ d = n / 2 ^ d
  · have a := Nat.div_add_mod m (2 ^ d); have b := Nat.div_add_mod n (2 ^ d)
    rw [he] at *
    split <;> split <;> omega
  · split <;> split <;> omega

/-- The rung to which a number above 0 is rounded. -/
def rungOf (m : Nat) (p : Int) : Nat :=
  if m = 0 then 0 else min ((max (p + m.log2 - 52) (-1074) + 1074).toNat * p52 + rne (m * 2 ^ (p - max (p + m.log2 - 52) (-1074)).toNat) (max (p + m.log2 - 52) (-1074) - p).toNat) infR

theorem nearest_eq (s : Bool) (m : Nat) (p : Int) : double.nearest s m p = double.word s (rungOf m p) := by
  unfold Ieee.Format.nearest rungOf
  by_cases h : m = 0
  · simp [h]
  · rw [if_neg h, if_neg h]
    have e2 : double.binade = p52 := by decide
    have e3 : double.infRung = infR := by decide
    have e4 : double.leastPlace = -1074 := by decide
    have e5 : (double.fractionBits : Int) = 52 := by decide
    simp only [e2, e3, e4, e5, cut_eq, Nat.shiftLeft_eq, show ∀ a : Int, a - (-1074) = a + 1074 from fun a => by omega]

theorem log2_scale {m : Nat} (h : m ≠ 0) (k : Nat) : (m * 2 ^ k).log2 = m.log2 + k := by
  have hp : 0 < 2 ^ k := Nat.two_pow_pos _
  have hm : m * 2 ^ k ≠ 0 := Nat.mul_ne_zero h (by omega)
  rw [Nat.log2_eq_iff hm]
  have a := pow_log_le h; have b := lt_pow_log m
  constructor
  · rw [Nat.pow_add]; exact Nat.mul_le_mul_right _ a
  · rw [show m.log2 + k + 1 = (m.log2 + 1) + k by omega, Nat.pow_add]
    exact Nat.mul_lt_mul_of_pos_right b hp

theorem rungOf_scale (m : Nat) (p : Int) (k : Nat) : rungOf (m * 2 ^ k) (p - k) = rungOf m p := by
  unfold rungOf
  by_cases h : m = 0
  · simp [h]
  · have hp : 0 < 2 ^ k := Nat.two_pow_pos _
    have hm : m * 2 ^ k ≠ 0 := Nat.mul_ne_zero h (by omega)
    rw [if_neg h, if_neg hm, log2_scale h]
    rw [show p - (k : Int) + ((m.log2 + k : Nat) : Int) - 52 = p + m.log2 - 52 by omega]
    generalize max (p + (m.log2 : Int) - 52) (-1074) = l
    congr 2
    by_cases h1 : l ≤ p
    · rw [show (l - p).toNat = 0 by omega, rne_zero]
      by_cases h2 : l ≤ p - k
      · rw [show (l - (p - k)).toNat = 0 by omega, rne_zero, Nat.mul_assoc, ← Nat.pow_add, show k + (p - ↑k - l).toNat = (p - l).toNat by omega]
      · rw [show (p - k - l).toNat = 0 by omega, Nat.pow_zero, Nat.mul_one]
        obtain ⟨j, hj⟩ : ∃ j : Nat, j = (l - (p - k)).toNat := ⟨_, rfl⟩
        rw [← hj, show k = (p - l).toNat + j by omega, Nat.pow_add, ← Nat.mul_assoc]
        have := rne_scale (m * 2 ^ (p - l).toNat) 0 j
        rw [Nat.zero_add] at this; rw [this, rne_zero]
    · rw [show (p - l).toNat = 0 by omega, show (p - k - l).toNat = 0 by omega, Nat.pow_zero, Nat.mul_one, Nat.mul_one, show (l - (p - k)).toNat = (l - p).toNat + k by omega, rne_scale]

/-- The same at a place that is low enough. -/
def low (c m : Nat) : Nat := (m.log2 - (52 + c)) * p52 + rne m (m.log2 - (52 + c) + c)

theorem rungOf_low {m : Nat} (c : Nat) (h : m ≠ 0) : rungOf m (-1074 - c) = min (low c m) infR := by
  unfold rungOf low
  rw [if_neg h]
  have e : max (-1074 - (c : Int) + m.log2 - 52) (-1074) = -1074 + ((m.log2 - (52 + c) : Nat) : Int) := by omega
  rw [e]
  rw [show (-1074 + ((m.log2 - (52 + c) : Nat) : Int) + 1074).toNat = m.log2 - (52 + c) by omega,
    show (-1074 - (c : Int) - (-1074 + ((m.log2 - (52 + c) : Nat) : Int))).toNat = 0 by omega,
    show (-1074 + ((m.log2 - (52 + c) : Nat) : Int) - (-1074 - (c : Int))).toNat = m.log2 - (52 + c) + c by omega, Nat.pow_zero, Nat.mul_one]

theorem rne_le_pow {n d e : Nat} (h : n < 2 ^ (d + e)) : rne n d ≤ 2 ^ e := by
  have h1 : n / 2 ^ d < 2 ^ e := by
    rw [Nat.div_lt_iff_lt_mul (Nat.two_pow_pos _), ← Nat.pow_add, Nat.add_comm]; exact h
  unfold rne; split <;> omega
theorem pow_le_rne {n d e : Nat} (h : 2 ^ (d + e) ≤ n) : 2 ^ e ≤ rne n d := by
  have h1 : 2 ^ e ≤ n / 2 ^ d := by
    rw [Nat.le_div_iff_mul_le (Nat.two_pow_pos _), ← Nat.pow_add, Nat.add_comm]; exact h
  unfold rne; split <;> omega

theorem log2_le_of_le {m n : Nat} (hm : m ≠ 0) (h : m ≤ n) : m.log2 ≤ n.log2 := by
  have a := pow_log_le hm; have b := lt_pow_log n
  have c : 2 ^ m.log2 < 2 ^ (n.log2 + 1) := by omega
  have := (Nat.pow_lt_pow_iff_right (a := 2) (by decide)).1 c
  omega

theorem low_le {m n : Nat} (c : Nat) (hm : m ≠ 0) (h : m ≤ n) : low c m ≤ low c n := by
  have hl := log2_le_of_le hm h
  unfold low
  by_cases he : m.log2 - (52 + c) = n.log2 - (52 + c)
  · rw [he]; exact Nat.add_le_add_left (rne_le _ h) _
  · have a : rne m (m.log2 - (52 + c) + c) ≤ 2 ^ 53 := rne_le_pow (Nat.lt_of_lt_of_le (lt_pow_log m) (Nat.pow_le_pow_right (by decide) (by omega)))
    have b : 2 ^ 52 ≤ rne n (n.log2 - (52 + c) + c) := pow_le_rne (Nat.le_trans (Nat.pow_le_pow_right (by decide) (by omega)) (pow_log_le (by omega : n ≠ 0)))
    have e1 : (2 : Nat) ^ 53 = 2 * p52 := by decide
    have e2 : (2 : Nat) ^ 52 = p52 := by decide
    rw [e1] at a; rw [e2] at b
    have : (m.log2 - (52 + c) + 1) * p52 ≤ (n.log2 - (52 + c)) * p52 := Nat.mul_le_mul_right _ (by omega)
    rw [Nat.add_mul] at this
    omega

theorem rungOf_mono {m n : Nat} (p : Int) (h : m ≤ n) : rungOf m p ≤ rungOf n p := by
  by_cases hm : m = 0
  · subst hm; simp [rungOf]
  · obtain ⟨c, k, hc⟩ : ∃ c k : Nat, p - k = -1074 - c := ⟨(p + 1074).toNat - (p + 1074).toNat + (-1074 - p).toNat, (p + 1074).toNat, by omega⟩
    rw [← rungOf_scale m p k, ← rungOf_scale n p k, hc, rungOf_low c (Nat.mul_ne_zero hm (by have := Nat.two_pow_pos k; omega)), rungOf_low c (Nat.mul_ne_zero (by omega) (by have := Nat.two_pow_pos k; omega))]
    have := low_le c (Nat.mul_ne_zero hm (by have := Nat.two_pow_pos k; omega)) (Nat.mul_le_mul_right (2 ^ k) h)
    omega

theorem rungOf_le_inf (m : Nat) (p : Int) : rungOf m p ≤ infR := by
  unfold rungOf; split
  · decide
  · omega

/-- A number of at most 53 digits, at a place not too low, is what it is rounded to. -/
theorem U_rungOf {m : Nat} {p : Int} (hm : m < 2 ^ 53) (hp : -1074 ≤ p) (hf : rungOf m p < infR) : U (rungOf m p) = m * 2 ^ (p + 1074).toNat := by
  by_cases h : m = 0
  · subst h; simp [rungOf, U_zero]
  · have hl : m.log2 ≤ 52 := by
      have a := pow_log_le h
      have : 2 ^ m.log2 < 2 ^ 53 := by omega
      have := (Nat.pow_lt_pow_iff_right (a := 2) (by decide)).1 this
      omega
    unfold rungOf at hf ⊢
    rw [if_neg h] at hf ⊢
    have a := pow_log_le h; have b := lt_pow_log m
    by_cases h1 : p + (m.log2 : Int) - 52 ≤ -1074
    · rw [show max (p + (m.log2 : Int) - 52) (-1074) = -1074 by omega] at hf ⊢
      rw [show ((-1074 : Int) + 1074).toNat = 0 by rfl, Nat.zero_mul, Nat.zero_add, show (p - -1074).toNat = (p + 1074).toNat by omega, show (-1074 - p).toNat = 0 by omega, rne_zero] at hf ⊢
      have c : m * 2 ^ (p + 1074).toNat < 2 ^ 53 := by
        refine Nat.lt_of_lt_of_le (Nat.mul_lt_mul_of_pos_right b (Nat.two_pow_pos _)) ?_
        rw [← Nat.pow_add]; exact Nat.pow_le_pow_right (by decide) (by omega)
      rw [Nat.min_eq_left (by omega)]
      generalize m * 2 ^ (p + 1074).toNat = t at *
      unfold U
      by_cases g : t < p52
      · rw [if_pos g]
      · rw [if_neg g]
        have e1 : (2 : Nat) ^ 53 = 2 * p52 := by decide
        have d1 : t / p52 = 1 := by
          apply Nat.div_eq_of_lt_le <;> omega
        have d2 := Nat.div_add_mod t p52
        rw [d1] at d2 ⊢
        simp only [Nat.sub_self, Nat.pow_zero, Nat.mul_one] at d2 ⊢
        exact d2
    · rw [show max (p + (m.log2 : Int) - 52) (-1074) = p + m.log2 - 52 by omega] at hf ⊢
      rw [show (p + (m.log2 : Int) - 52 - p).toNat = 0 by omega, rne_zero, show (p - (p + (m.log2 : Int) - 52)).toNat = 52 - m.log2 by omega] at hf ⊢
      obtain ⟨E, hE⟩ : ∃ E : Nat, E = (p + m.log2 - 52 + 1074).toNat := ⟨_, rfl⟩
      rw [← hE] at hf ⊢
      rw [Nat.min_eq_left (by omega)]
      have k1 : p52 ≤ m * 2 ^ (52 - m.log2) := by
        have : 2 ^ m.log2 * 2 ^ (52 - m.log2) ≤ m * 2 ^ (52 - m.log2) := Nat.mul_le_mul_right _ a
        rw [← Nat.pow_add, show m.log2 + (52 - m.log2) = 52 by omega] at this
        exact this
      have k2 : m * 2 ^ (52 - m.log2) < 2 * p52 := by
        have : m * 2 ^ (52 - m.log2) < 2 ^ (m.log2 + 1) * 2 ^ (52 - m.log2) := Nat.mul_lt_mul_of_pos_right b (Nat.two_pow_pos _)
        rw [← Nat.pow_add, show m.log2 + 1 + (52 - m.log2) = 53 by omega] at this
        exact this
      rw [show (p + 1074).toNat = (52 - m.log2) + E by omega, Nat.pow_add, ← Nat.mul_assoc]
      generalize m * 2 ^ (52 - m.log2) = t at *
      have d1 : (E * p52 + t) / p52 = E + 1 := by
        apply Nat.div_eq_of_lt_le
        · rw [Nat.add_mul]; omega
        · rw [Nat.add_mul, Nat.add_mul]; omega
      have d2 := Nat.div_add_mod (E * p52 + t) p52
      unfold U
      rw [if_neg (by omega), d1, show E + 1 - 1 = E by omega]
      congr 1
      rw [d1, Nat.mul_add, Nat.mul_comm p52 E] at d2
      omega

/-- A float is rounded to itself. -/
theorem rungOf_U {r : Nat} (h : r ≤ infR) : rungOf (U r) (-1074) = r := by
  by_cases h0 : r = 0
  · subst h0; rfl
  have hU : U r ≠ 0 := fun e => h0 (U_inj (e.trans U_zero.symm))
  have e := rungOf_low 0 hU
  rw [show (-1074 - ((0 : Nat) : Int)) = -1074 by rfl] at e
  rw [e]
  suffices H : low 0 (U r) = r by rw [H]; omega
  unfold low U
  by_cases h1 : r < p52
  · rw [if_pos h1]
    have : r.log2 < 52 := (Nat.log2_lt h0).2 h1
    rw [show r.log2 - (52 + 0) = 0 by omega, Nat.zero_mul, Nat.zero_add, rne_zero]
  · rw [if_neg h1]
    have hr : r % p52 < p52 := Nat.mod_lt _ (by decide)
    have h1r : 1 ≤ r / p52 := (Nat.one_le_div_iff (by decide)).2 (by omega)
    have l0 : (p52 + r % p52).log2 = 52 := by
      rw [Nat.log2_eq_iff (by have : 0 < p52 := (by decide); omega)]
      have e1 : (2 : Nat) ^ 52 = p52 := by decide
      have e2 : (2 : Nat) ^ (52 + 1) = 2 * p52 := by decide
      rw [e1, e2]; omega
    rw [log2_scale (by have : 0 < p52 := (by decide); omega), l0, show 52 + (r / p52 - 1) - (52 + 0) = r / p52 - 1 by omega]
    have := rne_scale (p52 + r % p52) 0 (r / p52 - 1)
    rw [Nat.zero_add] at this
    rw [Nat.add_zero, this, rne_zero]
    have d := Nat.div_add_mod r p52
    have : (r / p52 - 1) * p52 + p52 = p52 * (r / p52) := by
      rw [← Nat.succ_mul, Nat.mul_comm]; congr 1; omega
    omega

/-- Whole units: at least U r means at the rung r at least. -/
theorem le_rungOf {r m : Nat} (h : r ≤ infR) (hu : U r ≤ m) : r ≤ rungOf m (-1074) := by
  have := rungOf_mono (-1074) hu; rwa [rungOf_U h] at this
theorem rungOf_le {r m : Nat} (h : r ≤ infR) (hu : m ≤ U r) : rungOf m (-1074) ≤ r := by
  have := rungOf_mono (-1074) hu; rwa [rungOf_U h] at this

end Go.Proofs.Ytnlbafjmbamoeaa
