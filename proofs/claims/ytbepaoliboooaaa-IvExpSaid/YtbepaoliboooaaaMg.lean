/-
  Floats that are whole numbers times a power of two: sums, differences, products of those, and how they are rounded, as whole numbers. No condition but those in the statements.
-/
import Derived.Test.YtbepaoliboooaaaMf
namespace Go.Proofs.Ytbepaoliboooaaa
open Ieee (double)

/-- A whole number to 53 digits. -/
def rnN (m : Nat) : Nat := rne m (m.log2 - 52) * 2 ^ (m.log2 - 52)
def rn (m : Int) : Int := if m < 0 then -(rnN m.natAbs : Int) else rnN m.natAbs

theorem log2_small {m : Nat} (h : m < 2 ^ 53) : m.log2 - 52 = 0 := by
  by_cases h0 : m = 0
  · subst h0; decide
  · have a := pow_log_le h0
    have : 2 ^ m.log2 < 2 ^ 53 := by omega
    have := (Nat.pow_lt_pow_iff_right (a := 2) (by decide)).1 this
    omega
theorem rnN_small {m : Nat} (h : m < 2 ^ 53) : rnN m = m := by
  unfold rnN; rw [log2_small h, rne_zero]; simp
theorem rnN_pow (k : Nat) (hk : k ≤ 100) : rnN (2 ^ k) = 2 ^ k := by
  unfold rnN
  have : (2 ^ k).log2 = k := by rw [Nat.log2_eq_iff (by have := Nat.two_pow_pos k; omega)]; exact ⟨Nat.le_refl _, Nat.pow_lt_pow_right (by decide) (by omega)⟩
  rw [this]
  by_cases h : k ≤ 52
  · rw [show k - 52 = 0 by omega, rne_zero]; simp
  · have e : (2 : Nat) ^ k = 2 ^ 52 * 2 ^ (k - 52) := by rw [← Nat.pow_add]; congr 1; omega
    have := rne_scale (2 ^ 52) 0 (k - 52)
    rw [Nat.zero_add] at this
    rw [e, this, rne_zero]
theorem rn_small {m : Int} (h1 : -9007199254740992 ≤ m) (h2 : m ≤ 9007199254740992) : rn m = m := by
  have : rnN m.natAbs = m.natAbs := by
    by_cases h : m.natAbs < 2 ^ 53
    · exact rnN_small h
    · rw [show m.natAbs = 2 ^ 53 by omega]; exact rnN_pow 53 (by decide)
  unfold rn; rw [this]; split <;> omega

theorem rne_err (n d : Nat) : 2 * n ≤ 2 * (rne n d * 2 ^ d) + 2 ^ d ∧ 2 * (rne n d * 2 ^ d) ≤ 2 * n + 2 ^ d := by
  unfold rne
  have h := Nat.div_add_mod n (2 ^ d)
  have hl : n % 2 ^ d < 2 ^ d := Nat.mod_lt _ (Nat.two_pow_pos _)
  rw [Nat.mul_comm] at h
  split
  · rw [Nat.add_mul]; generalize n / 2 ^ d * 2 ^ d = q at *; omega
  · rw [Nat.add_zero]; generalize n / 2 ^ d * 2 ^ d = q at *; omega
theorem rnN_err {m B : Nat} (h : m.log2 - 52 ≤ B) : 2 * m ≤ 2 * rnN m + 2 ^ B ∧ 2 * rnN m ≤ 2 * m + 2 ^ B := by
  have a := rne_err m (m.log2 - 52)
  have b : 2 ^ (m.log2 - 52) ≤ 2 ^ B := Nat.pow_le_pow_right (by decide) h
  unfold rnN; omega
theorem log2_lt_of {m k : Nat} (h : m < 2 ^ k) : m.log2 - 52 ≤ k - 53 := by
  by_cases h0 : m = 0
  · subst h0; simp
  · have a := pow_log_le h0
    have : 2 ^ m.log2 < 2 ^ k := by omega
    have := (Nat.pow_lt_pow_iff_right (a := 2) (by decide)).1 this
    omega
/-- How far off rounding is, below 2^k. -/
theorem rn_err {m : Int} (k : Nat) (h : m.natAbs < 2 ^ k) : 2 * (rn m - m) ≤ (2 ^ (k - 53) : Nat) ∧ -((2 ^ (k - 53) : Nat) : Int) ≤ 2 * (rn m - m) := by
  have a := rnN_err (log2_lt_of h)
  unfold rn; split <;> omega

theorem rne_bounds {m d : Nat} (h1 : 2 ^ (d + 52) ≤ m) (h2 : m < 2 ^ (d + 53)) : p52 ≤ rne m d ∧ rne m d ≤ 2 * p52 := by
  have a := pow_le_rne h1
  have b := rne_le_pow h2
  have e1 : (2 : Nat) ^ 52 = p52 := by decide
  have e2 : (2 : Nat) ^ 53 = 2 * p52 := by decide
  omega

theorem U_field {E t : Nat} (h1 : p52 ≤ t) (h2 : t ≤ 2 * p52) : U (E * p52 + t) = t * 2 ^ E := by
  have hp : 0 < p52 := by decide
  by_cases h3 : t = 2 * p52
  · subst h3
    have d1 : (E * p52 + 2 * p52) / p52 = E + 2 := by rw [← Nat.add_mul, Nat.mul_div_cancel _ hp]
    have d2 : (E * p52 + 2 * p52) % p52 = 0 := by rw [← Nat.add_mul, Nat.mul_mod_left]
    unfold U
    rw [if_neg (by omega), d1, d2, Nat.add_zero, show E + 2 - 1 = E + 1 by omega, Nat.pow_succ, Nat.mul_comm (2 ^ E) 2, ← Nat.mul_assoc, Nat.mul_comm p52 2]
  · have d1 : (E * p52 + t) / p52 = E + 1 := by
      apply Nat.div_eq_of_lt_le
      · rw [Nat.add_mul]; omega
      · rw [Nat.add_mul, Nat.add_mul]; omega
    have d2 := Nat.div_add_mod (E * p52 + t) p52
    unfold U
    rw [if_neg (by omega), d1, show E + 1 - 1 = E by omega]
    congr 1
    rw [d1, Nat.mul_add, Nat.mul_comm p52 E] at d2
    omega

/-- What a whole number at a place that is not too low is rounded to. -/
theorem U_round {m : Nat} {p : Int} (hp : -1074 ≤ p) (hf : rungOf m p < infR) : U (rungOf m p) = rnN m * 2 ^ (p + 1074).toNat := by
  by_cases h : m < 2 ^ 53
  · rw [U_rungOf h hp hf, rnN_small h]
  · have h0 : m ≠ 0 := by omega
    have hl : 53 ≤ m.log2 := by
      have b := lt_pow_log m
      have : 2 ^ 53 < 2 ^ (m.log2 + 1) := by omega
      have := (Nat.pow_lt_pow_iff_right (a := 2) (by decide)).1 this
      omega
    have a := pow_log_le h0; have b := lt_pow_log m
    unfold rungOf at hf ⊢
    rw [if_neg h0] at hf ⊢
    rw [show max (p + (m.log2 : Int) - 52) (-1074) = p + m.log2 - 52 by omega] at hf ⊢
    rw [show (p - (p + (m.log2 : Int) - 52)).toNat = 0 by omega, Nat.pow_zero, Nat.mul_one, show (p + (m.log2 : Int) - 52 - p).toNat = m.log2 - 52 by omega,
      show (p + (m.log2 : Int) - 52 + 1074).toNat = (p + 1074).toNat + (m.log2 - 52) by omega] at hf ⊢
    rw [Nat.min_eq_left (by omega)]
    obtain ⟨r1, r2⟩ := rne_bounds (m := m) (d := m.log2 - 52) (by rw [show m.log2 - 52 + 52 = m.log2 by omega]; exact a) (by rw [show m.log2 - 52 + 53 = m.log2 + 1 by omega]; exact b)
    rw [U_field r1 r2]
    unfold rnN
    rw [Nat.add_comm (p + 1074).toNat, Nat.pow_add, ← Nat.mul_assoc]

/-- The float is m times 2^k. -/
def Is (a : Nat) (m : Int) (k : Int) : Prop := a < 18446744073709551616 ∧ a % p63 < infR ∧ -1074 ≤ k ∧ V a = m * (2 ^ (k + 1074).toNat : Nat)

theorem Is.fin {a : Nat} {m k : Int} (h : Is a m k) : a % p63 < infR := h.2.1
theorem Is.num {a : Nat} {m k : Int} (h : Is a m k) : isN a = false := isN_of_le (Nat.le_of_lt h.2.1)
theorem Is.lt {a : Nat} {m k : Int} (h : Is a m k) : a < 18446744073709551616 := h.1

theorem Is.down {a : Nat} {m k : Int} (h : Is a m k) (j : Nat) (hj : -1074 ≤ k - j) : Is a (m * (2 ^ j : Nat)) (k - j) := by
  refine ⟨h.1, h.2.1, hj, ?_⟩
  rw [h.2.2.2, Int.mul_assoc, ← Int.natCast_mul, ← Nat.pow_add]
  congr 3; omega

/-- Not so great as to be infinite. -/
def Fits (m k : Int) : Prop := rungOf m.natAbs k < infR
theorem fits_of {m k : Int} (B : Nat) (c : Nat) (hm : m.natAbs < 2 ^ B) (hk : k + B ≤ c) (hc : c ≤ 1023) : Fits m k := by
  unfold Fits
  have h1 : rungOf m.natAbs k ≤ rungOf (2 ^ B) k := rungOf_mono k (Nat.le_of_lt hm)
  have h2 := rungOf_scale 1 (k + B) B
  rw [Nat.one_mul, show k + (B : Int) - (B : Nat) = k by omega] at h2
  have h3 : rungOf 1 (k + B) ≤ rungOf 1 1023 := by
    obtain ⟨j, hj⟩ : ∃ j : Nat, (j : Int) = 1023 - (k + B) := ⟨(1023 - (k + B)).toNat, by omega⟩
    have := rungOf_scale 1 1023 j
    rw [show (1023 : Int) - (j : Nat) = k + B by omega, Nat.one_mul] at this
    rw [← this]
    exact rungOf_mono _ (Nat.two_pow_pos _)
  have h4 : rungOf 1 1023 < infR := by decide +kernel
  omega

/-- A word whose rung is what m at place k is rounded to. -/
theorem is_word {s : Bool} {m k : Int} (hk : -1074 ≤ k) (hf : Fits m k) (hs : m ≠ 0 → s = decide (m < 0)) : Is (double.word s (rungOf m.natAbs k)) (rn m) k := by
  have hle := rungOf_le_inf m.natAbs k
  refine ⟨word_lt _ hle, by rw [word_mod _ hle]; exact hf, hk, ?_⟩
  rw [word_V _ hle, U_round hk hf]
  unfold rn sgd
  by_cases h0 : m = 0
  · subst h0
    have : rnN (Int.natAbs 0) = 0 := rnN_small (by decide)
    rw [this]; cases s <;> simp
  · rw [hs h0]
    by_cases hn : m < 0
    · simp only [hn, decide_true, if_true]; rw [Int.natCast_mul, Int.neg_mul]
    · simp only [hn, decide_false, Bool.false_eq_true, if_false]; rw [Int.natCast_mul]

theorem natAbs_pow (m : Int) (n : Nat) : (m * (2 ^ n : Nat)).natAbs = m.natAbs * 2 ^ n := by rw [Int.natAbs_mul, Int.natAbs_natCast]
theorem mul_pow_neg (m : Int) (n : Nat) : m * (2 ^ n : Nat) < 0 ↔ m < 0 := by
  have hp : 0 < 2 ^ n := Nat.two_pow_pos _
  constructor
  · intro h; rcases Int.lt_or_le m 0 with g | g
    · exact g
    · have := Int.mul_nonneg g (show (0 : Int) ≤ (2 ^ n : Nat) by omega); omega
  · intro h; exact Int.mul_neg_of_neg_of_pos h (by omega)
theorem mul_pow_zero (m : Int) (n : Nat) : m * (2 ^ n : Nat) = 0 ↔ m = 0 := by
  have hp : 0 < 2 ^ n := Nat.two_pow_pos _
  constructor
  · intro h; rcases Int.mul_eq_zero.1 h with g | g
    · exact g
    · omega
  · intro h; rw [h, Int.zero_mul]
theorem rung_place (m : Nat) {k : Int} (hk : -1074 ≤ k) : rungOf (m * 2 ^ (k + 1074).toNat) (-1074) = rungOf m k := by
  have := rungOf_scale m k (k + 1074).toNat
  rw [show k - ((k + 1074).toNat : Int) = -1074 by omega] at this; exact this

theorem is_add {a b : Nat} {m n k : Int} (ha : Is a m k) (hb : Is b n k) (hf : Fits (m + n) k) : ∃ r, double.add a b = some r ∧ Is r (rn (m + n)) k := by
  refine ⟨_, add_fin ha.2.1 hb.2.1, ?_⟩
  have hV : V a + V b = (m + n) * (2 ^ (k + 1074).toNat : Nat) := by rw [ha.2.2.2, hb.2.2.2, Int.add_mul]
  rw [hV, natAbs_pow, rung_place _ ha.2.2.1]
  refine is_word ha.2.2.1 hf fun h0 => ?_
  rw [if_neg (fun e => h0 ((mul_pow_zero _ _).1 e))]
  simp only [mul_pow_neg]
theorem is_sub {a b : Nat} {m n k : Int} (ha : Is a m k) (hb : Is b n k) (hf : Fits (m - n) k) : ∃ r, double.sub a b = some r ∧ Is r (rn (m - n)) k := by
  refine ⟨_, sub_fin ha.2.1 hb.2.1, ?_⟩
  have hV : V a - V b = (m - n) * (2 ^ (k + 1074).toNat : Nat) := by rw [ha.2.2.2, hb.2.2.2, Int.sub_mul]
  rw [hV, natAbs_pow, rung_place _ ha.2.2.1]
  refine is_word ha.2.2.1 hf fun h0 => ?_
  rw [if_neg (fun e => h0 ((mul_pow_zero _ _).1 e))]
  simp only [mul_pow_neg]

theorem U_of_V {a : Nat} {m k : Int} (h : Is a m k) : U (a % p63) = m.natAbs * 2 ^ (k + 1074).toNat ∧ (m ≠ 0 → neg a = decide (m < 0)) := by
  have hV := h.2.2.2
  have e : (V a).natAbs = U (a % p63) := by unfold V sgd; split <;> simp
  refine ⟨by rw [← e, hV, natAbs_pow], fun h0 => ?_⟩
  have hs : V a < 0 ↔ m < 0 := by rw [hV]; exact mul_pow_neg _ _
  have hz : V a ≠ 0 := fun e0 => h0 ((mul_pow_zero _ _).1 (hV ▸ e0))
  unfold V sgd at hs hz
  cases hn : neg a
  · rw [hn] at hs hz; simp only [Bool.false_eq_true, if_false] at hs hz
    symm; rw [decide_eq_false_iff_not]; omega
  · rw [hn] at hs hz; simp only [if_true] at hs hz
    symm; rw [decide_eq_true_eq]; omega

theorem is_mul {a b : Nat} {m n k l : Int} (ha : Is a m k) (hb : Is b n l) (hk : -1074 ≤ k + l) (hf : Fits (m * n) (k + l)) : ∃ r, double.mul a b = some r ∧ Is r (rn (m * n)) (k + l) := by
  refine ⟨_, mul_fin ha.2.1 hb.2.1, ?_⟩
  obtain ⟨u1, s1⟩ := U_of_V ha
  obtain ⟨u2, s2⟩ := U_of_V hb
  have e : U (a % p63) * U (b % p63) = (m * n).natAbs * 2 ^ ((k + 1074).toNat + (l + 1074).toNat) := by
    rw [u1, u2, Int.natAbs_mul, Nat.pow_add]
    simp only [Nat.mul_assoc, Nat.mul_left_comm]
  have h1 := ha.2.2.1; have h2 := hb.2.2.1
  have r := rungOf_scale (m * n).natAbs (k + l) ((k + 1074).toNat + (l + 1074).toNat)
  rw [show k + l - (((k + 1074).toNat + (l + 1074).toNat : Nat) : Int) = -2148 by omega] at r
  rw [e, r]
  refine is_word hk hf fun h0 => ?_
  have hm : m ≠ 0 := fun e => h0 (by rw [e, Int.zero_mul])
  have hn : n ≠ 0 := fun e => h0 (by rw [e, Int.mul_zero])
  rw [s1 hm, s2 hn]
  by_cases g1 : m < 0 <;> by_cases g2 : n < 0
  · have : 0 < m * n := Int.mul_pos_of_neg_of_neg g1 g2
    simp [g1, g2, show ¬ m * n < 0 by omega]
  · have : m * n < 0 := Int.mul_neg_of_neg_of_pos g1 (by omega)
    simp [g1, g2, this]
  · have : m * n < 0 := Int.mul_neg_of_pos_of_neg (by omega) g2
    simp [g1, g2, this]
  · have : 0 < m * n := Int.mul_pos (by omega) (by omega)
    simp [g1, g2, show ¬ m * n < 0 by omega]

/-- A product and a sum, rounded once. -/
theorem is_fma {a b c : Nat} {m n q k l : Int} (ha : Is a m k) (hb : Is b n l) (hc : Is c q (k + l)) (hf : Fits (m * n + q) (k + l)) : ∃ r, double.fma a b c = some r ∧ Is r (rn (m * n + q)) (k + l) := by
  obtain ⟨x, i, e1, hi, e2⟩ := read_fin ha.2.1
  obtain ⟨y, j, e3, hj, e4⟩ := read_fin hb.2.1
  obtain ⟨z, t, e5, ht, e6⟩ := read_fin hc.2.1
  have hk := hc.2.2.1
  unfold Ieee.Format.fma
  rw [e1, e3, e5]
  simp only [Ieee.Datum.product, Ieee.Datum.sum, Option.bind_some, Option.map_some, Ieee.Format.write, nearest_eq]
  refine ⟨_, rfl, ?_⟩
  -- all in units of 2^-2148
  have hab : sgd (neg a ^^ neg b) (x * y * 2 ^ (i + j + 2148).toNat) = m * n * (2 ^ (k + l + 2148).toNat : Nat) := by
    have := sgd_sgd (neg a) (neg b) (U (a % p63)) (U (b % p63))
    have va : V a = sgd (neg a) (U (a % p63)) := rfl
    have vb : V b = sgd (neg b) (U (b % p63)) := rfl
    rw [← va, ← vb, ha.2.2.2, hb.2.2.2, ← e2, ← e4] at this
    have h1 := ha.2.2.1; have h2 := hb.2.2.1
    rw [show x * 2 ^ (i + 1074).toNat * (y * 2 ^ (j + 1074).toNat) = x * y * 2 ^ (i + j + 2148).toNat by
      rw [show (i + j + 2148).toNat = (i + 1074).toNat + (j + 1074).toNat by omega, Nat.pow_add]
      simp only [Nat.mul_assoc, Nat.mul_left_comm]] at this
    rw [← this, show (k + l + 2148).toNat = (k + 1074).toNat + (l + 1074).toNat by omega, Nat.pow_add, Int.natCast_mul]
    simp only [Int.mul_assoc, Int.mul_left_comm]
  have hcc : sgd (neg c) (z * 2 ^ (t + 2148).toNat) = q * (2 ^ (k + l + 2148).toNat : Nat) := by
    have vc : V c = sgd (neg c) (U (c % p63)) := rfl
    rw [hc.2.2.2, ← e6] at vc
    rw [show (t + 2148).toNat = (t + 1074).toNat + 1074 by omega, show (k + l + 2148).toNat = (k + l + 1074).toNat + 1074 by omega, Nat.pow_add, Nat.pow_add, ← Nat.mul_assoc, sgd_mul, ← vc, Int.natCast_mul, Int.mul_assoc]
  generalize hb1 : min (i + j) t = base at *
  have s1 : sgd (neg a ^^ neg b) (x * y * 2 ^ (i + j + 2148).toNat) = Ieee.signed (neg a ^^ neg b) (x * y) (i + j - base).toNat * (2 ^ (base + 2148).toNat : Nat) := by
    rw [signed_eq, ← sgd_mul, Nat.mul_assoc (x * y), ← Nat.pow_add, show (i + j - base).toNat + (base + 2148).toNat = (i + j + 2148).toNat by omega]
  have s2 : sgd (neg c) (z * 2 ^ (t + 2148).toNat) = Ieee.signed (neg c) z (t - base).toNat * (2 ^ (base + 2148).toNat : Nat) := by
    rw [signed_eq, ← sgd_mul, Nat.mul_assoc z, ← Nat.pow_add, show (t - base).toNat + (base + 2148).toNat = (t + 2148).toNat by omega]
  have hT : (Ieee.signed (neg a ^^ neg b) (x * y) (i + j - base).toNat + Ieee.signed (neg c) z (t - base).toNat) * (2 ^ (base + 2148).toNat : Nat) = (m * n + q) * (2 ^ (k + l + 2148).toNat : Nat) := by
    rw [Int.add_mul, ← s1, ← s2, hab, hcc, Int.add_mul]
  generalize Ieee.signed (neg a ^^ neg b) (x * y) (i + j - base).toNat + Ieee.signed (neg c) z (t - base).toNat = T at *
  have hr : rungOf T.natAbs base = rungOf (m * n + q).natAbs (k + l) := by
    have r1 := rungOf_scale T.natAbs base (base + 2148).toNat
    have r2 := rungOf_scale (m * n + q).natAbs (k + l) (k + l + 2148).toNat
    rw [← natAbs_pow, hT, natAbs_pow, show base - ((base + 2148).toNat : Int) = -2148 by omega] at r1
    rw [show k + l - ((k + l + 2148).toNat : Int) = -2148 by omega] at r2
    rw [← r1, r2]
  rw [hr]
  refine is_word hk hf fun h0 => ?_
  have z0 : T ≠ 0 := fun e => h0 ((mul_pow_zero _ _).1 (by rw [← hT, e, Int.zero_mul]))
  have z1 : T < 0 ↔ m * n + q < 0 := by rw [← mul_pow_neg T (base + 2148).toNat, hT, mul_pow_neg]
  rw [if_neg z0]
  simp only [z1]

theorem is_ofInt {n : Int} (h1 : -9007199254740992 ≤ n) (h2 : n ≤ 9007199254740992) : Is (floatOfInt .f64 n) n 0 := by
  have := is_word (s := decide (n < 0)) (m := n) (k := 0) (by decide) (rungOf_small (by omega)) (fun _ => rfl)
  rw [rn_small h1 h2] at this
  rw [ofInt_eq]; exact this
theorem is_ofInt' {n : Int} (h1 : -18446744073709551616 < n) (h2 : n < 18446744073709551616) : Is (floatOfInt .f64 n) (rn n) 0 := by
  have := is_word (s := decide (n < 0)) (m := n) (k := 0) (by decide) (rungOf_small (by omega)) (fun _ => rfl)
  rw [ofInt_eq]; exact this

/-- What a float is needs no more than 53 digits. -/
theorem Is.self {a : Nat} {m k : Int} (h : Is a m k) : rn m = m := by
  obtain ⟨u, _⟩ := U_of_V h
  have hk := h.2.2.1
  have hr : rungOf m.natAbs k = a % p63 := by
    rw [← rung_place _ hk, ← u, rungOf_U (Nat.le_of_lt h.2.1)]
  have := U_round hk (by rw [hr]; exact h.2.1 : rungOf m.natAbs k < infR)
  rw [hr, u] at this
  have e := Nat.mul_right_cancel (Nat.two_pow_pos _) this
  unfold rn; rw [← e]; split <;> omega

theorem is_scale {a : Nat} {m k : Int} (h : Is a m k) (e : Int) (hk : -1074 ≤ k + e) (hf : Fits m (k + e)) : Is (ldexpB a e) m (k + e) := by
  obtain ⟨u, s⟩ := U_of_V h
  have h1 := h.2.2.1
  have hm := h.self
  unfold ldexpB
  by_cases h0 : a % p63 = 0
  · rw [if_pos (Or.inl h0)]
    refine ⟨h.1, h.2.1, hk, ?_⟩
    have v0 : V a = 0 := by unfold V sgd; rw [h0]; split <;> simp [U_zero]
    have m0 : m = 0 := (mul_pow_zero _ _).1 (h.2.2.2 ▸ v0)
    rw [v0, m0, Int.zero_mul]
  · have hfin := h.2.1
    rw [if_neg (by omega), u]
    have r := rungOf_scale m.natAbs (k + e) (k + 1074).toNat
    rw [show k + e - ((k + 1074).toNat : Int) = e - 1074 by omega] at r
    rw [r]
    have := is_word (s := neg a) (m := m) hk hf s
    rwa [hm] at this

theorem is_flip {a : Nat} {m k : Int} (h : Is a m k) : Is (flip a) (-m) k := by
  refine ⟨flip_lt h.1, by rw [flip_mod h.1]; exact h.2.1, h.2.2.1, ?_⟩
  rw [flip_eq h.1, word_V _ (Nat.le_of_lt h.2.1), Int.neg_mul, ← h.2.2.2]
  unfold V sgd; cases neg a <;> simp

theorem is_eq {a b : Nat} {m n k : Int} (ha : Is a m k) (hb : Is b n k) : eqB a b = decide (m = n) := by
  unfold eqB
  rw [ha.num, hb.num]
  have h : key a = key b ↔ m = n := by
    rw [← V_eq, ha.2.2.2, hb.2.2.2]
    have hp : 0 < 2 ^ (k + 1074).toNat := Nat.two_pow_pos _
    exact ⟨fun h => Int.eq_of_mul_eq_mul_right (by omega) h, fun h => by rw [h]⟩
  simp [h]
theorem is_le {a b : Nat} {m n k : Int} (ha : Is a m k) (hb : Is b n k) : leB a b = decide (m ≤ n) := by
  unfold leB
  rw [ha.num, hb.num]
  have h : key a ≤ key b ↔ m ≤ n := by
    rw [← V_le, ha.2.2.2, hb.2.2.2]
    have hp : 0 < 2 ^ (k + 1074).toNat := Nat.two_pow_pos _
    exact ⟨fun h => Int.le_of_mul_le_mul_right h (by omega), fun h => Int.mul_le_mul_of_nonneg_right h (by omega)⟩
  simp [h]
theorem is_abs {a : Nat} {m k : Int} (h : Is a m k) : Is (a % 9223372036854775808) (m.natAbs : Int) k := by
  have hlt : a % p63 < p63 := Nat.mod_lt _ (by decide)
  have e : a % 9223372036854775808 = double.word false (a % p63) := by rw [word_eq]; rfl
  rw [e]
  have hle := Nat.le_of_lt h.2.1
  refine ⟨word_lt _ hle, by rw [word_mod _ hle]; exact h.2.1, h.2.2.1, ?_⟩
  rw [word_V _ hle, (U_of_V h).1]; simp [sgd, Int.natCast_mul]

/-- 'int(x)' of a whole number. -/
theorem is_toInt {a : Nat} {m : Int} (h : Is a m 0) (h1 : -9223372036854775808 ≤ m) (h2 : m ≤ 9223372036854775807) : floatToIntVal .f64 a .i64 = some m := by
  obtain ⟨x, i, e1, hi, e2⟩ := read_fin h.2.1
  obtain ⟨u, s⟩ := U_of_V h
  rw [u, show ((0 : Int) + 1074).toNat = low74 from rfl] at e2
  unfold floatToIntVal
  have hd : FloatKind.f64.decode a = .number (neg a) x i := e1
  rw [hd]
  have hcut : Ieee.Toward.zero.cut (neg a) (x <<< i.toNat) (-i).toNat = m.natAbs := by
    show (x <<< i.toNat) / (1 <<< min (-i).toNat ((x <<< i.toNat).log2 + 2)) + 0 = _
    rw [Nat.add_zero, Nat.shiftLeft_eq, Nat.shiftLeft_eq, Nat.one_mul]
    by_cases g : 0 ≤ i
    · rw [show (-i).toNat = 0 by omega, Nat.zero_min, Nat.pow_zero, Nat.div_one]
      rw [show (i + 1074).toNat = i.toNat + low74 by unfold low74; omega, Nat.pow_add, ← Nat.mul_assoc] at e2
      exact Nat.mul_right_cancel (Nat.two_pow_pos _) e2
    · rw [show i.toNat = 0 by omega, Nat.pow_zero, Nat.mul_one]
      have e3 : x = m.natAbs * 2 ^ (-i).toNat := by
        have : low74 = (i + 1074).toNat + (-i).toNat := by unfold low74; omega
        rw [this, Nat.add_comm, Nat.pow_add, ← Nat.mul_assoc] at e2
        exact Nat.mul_right_cancel (Nat.two_pow_pos _) e2
      by_cases m0 : m.natAbs = 0
      · rw [m0, Nat.zero_mul] at e3; rw [e3, m0]; simp
      · have hl : x.log2 = m.natAbs.log2 + (-i).toNat := by rw [e3, log2_scale m0]
        rw [Nat.min_eq_left (by omega), e3, Nat.mul_div_cancel _ (Nat.two_pow_pos _)]
  have ht : (Ieee.Datum.number (neg a) x i).toInt .zero = some m := by
    show some (Ieee.signed (neg a) (Ieee.Toward.zero.cut (neg a) (x <<< i.toNat) (-i).toNat) 0) = some m
    rw [hcut, signed_eq]
    unfold sgd
    by_cases m0 : m = 0
    · subst m0; cases neg a <;> simp
    · rw [s m0]
      by_cases hn : m < 0
      · simp [hn]; omega
      · simp [hn]; omega
  rw [ht]
  have a1 : IntKind.i64.min = -9223372036854775808 := by decide
  have a2 : IntKind.i64.max = 9223372036854775807 := by decide
  simp only []
  rw [if_pos (by omega)]

end Go.Proofs.Ytbepaoliboooaaa
