/-
  'CorrScales': quotients of floats that are neither great nor small: of both twice the same, by twice as much half.
-/
import Derived.Test.YtclhgnhbmlkomaaB9t
import Derived.Test.YtclhgnhbmlkomaaMs
namespace Go.Proofs.Ytclhgnhbmlkomaa
open Go.RowKit Ex
open Ieee (double)

def ckHi : Nat := 6103021453049119613
def ckLo : Nat := 3110860544497550640
/-- A word without a sign. -/
theorem ck_key {x : Nat} (h : x < p63) : key x = (x : Int) ∧ neg x = false ∧ x % p63 = x := by
  have h' : x < 9223372036854775808 := h
  have h1 : x / p63 % 2 = 0 := show x / 9223372036854775808 % 2 = 0 by omega
  refine ⟨?_, ?_, Nat.mod_eq_of_lt h⟩
  · unfold key
    rw [if_neg (by omega), Nat.mod_eq_of_lt h]
  · unfold neg
    rw [h1]; rfl
theorem ck_word {r : Nat} (h : r ≤ infR) : double.word false r = r ∧ r < p63 := by
  refine ⟨?_, Nat.lt_of_le_of_lt h (by decide)⟩
  unfold Ieee.Format.word
  simp
theorem ck_cop {x y r : Nat} (h : double.div x y = some r) (hn : isN r = false) : cop .quo x y = r := by
  have : cop .quo x y = canon r := by unfold cop; rw [show floatBits .quo .f64 x y = some r from h]
  rw [this, canon_num hn]
theorem ck_num {r : Nat} (h : r ≤ infR) : isN r = false := by
  unfold isN
  have e : p63 = 9223372036854775808 := rfl
  have e2 : infR = 9218868437227405312 := rfl
  rw [Nat.mod_eq_of_lt (by omega)]
  exact decide_eq_false (by omega)
/-- Both twice: the same; by twice as much: half. -/
theorem ck_quo {x y x2 y2 : Nat} (hx : x < infR) (hy : y < infR) (hx2 : x2 < infR) (hy2 : y2 < infR) (h0 : y ≠ 0) (h3 : y2 ≠ 0) (ux : U x2 = U x * 2) (uy : U y2 = U y * 2) :
    ∃ r, r ≤ infR ∧ cop .quo x y = r ∧ cop .quo x2 y2 = r ∧ (2 * p52 < r → r < infR → cop .quo x y2 + p52 = r) := by
  have e2 : infR = 9218868437227405312 := rfl
  have e63 : p63 = 9223372036854775808 := rfl
  have mx : x % p63 = x := Nat.mod_eq_of_lt (by omega)
  have my : y % p63 = y := Nat.mod_eq_of_lt (by omega)
  have mx2 : x2 % p63 = x2 := Nat.mod_eq_of_lt (by omega)
  have my2 : y2 % p63 = y2 := Nat.mod_eq_of_lt (by omega)
  have nx := (ck_key (x := x) (by omega)).2.1
  have ny := (ck_key (x := y) (by omega)).2.1
  have nx2 := (ck_key (x := x2) (by omega)).2.1
  have ny2 := (ck_key (x := y2) (by omega)).2.1
  obtain ⟨L1, g1⟩ := quo_big (x := x) (y := y) (by omega) (by omega) (by omega)
  obtain ⟨L2, g2⟩ := quo_big (x := x) (y := y2) (by omega) (by omega) (by omega)
  obtain ⟨L3, g3⟩ := quo_big (x := x2) (y := y2) (by omega) (by omega) (by omega)
  obtain ⟨L, hL⟩ : ∃ L, L = L1 + L2 + L3 + 1073 := ⟨_, rfl⟩
  have f1 := g1 L (by omega)
  have f2 := g2 (L + 1) (by omega)
  have f3 := g3 L (by omega)
  rw [mx, my, nx, ny] at f1
  rw [mx, my2, nx, ny2, uy, Nat.pow_succ, ← Nat.mul_assoc, st_scale _ _ (by decide)] at f2
  rw [mx2, my2, nx2, ny2, ux, uy, Nat.mul_right_comm, st_scale _ _ (by decide)] at f3
  have c1 : (-1 : Int) - (L : Int) = -1074 - ((L - 1073 : Nat) : Int) := by omega
  have c2 : (-1 : Int) - ((L + 1 : Nat) : Int) = -1074 - ((L - 1073 + 1 : Nat) : Int) := by omega
  rw [c1] at f1 f3
  rw [c2] at f2
  have b1 := rungOf_le_inf (st (U x * 2 ^ L) (U y)) (-1074 - ((L - 1073 : Nat) : Int))
  have b2 := rungOf_le_inf (st (U x * 2 ^ L) (U y)) (-1074 - ((L - 1073 + 1 : Nat) : Int))
  have s1 : (false ^^ false) = false := rfl
  rw [s1, (ck_word b1).1] at f1 f3
  rw [s1, (ck_word b2).1] at f2
  refine ⟨_, b1, ck_cop f1 (ck_num b1), ck_cop f3 (ck_num b1), fun k1 k2 => ?_⟩
  rw [ck_cop f2 (ck_num b2)]
  exact rung_half k1 k2
/-- Neither great nor small. -/
structure Md (x : Nat) : Prop where
  lo : ckLo < x
  hi : x < ckHi
theorem Md.inf {x : Nat} (h : Md x) : x < infR := Nat.lt_trans h.hi (by decide)
theorem Md.ne {x : Nat} (h : Md x) : x ≠ 0 := by have := h.lo; omega
theorem U_binade {r : Nat} (h : p52 ≤ r) : U (r + p52) = U r * 2 := by
  have e : p52 = 4503599627370496 := rfl
  unfold U
  rw [if_neg (by omega), if_neg (by omega)]
  have h1 : (r + p52) % p52 = r % p52 := by rw [e]; omega
  have h' : 4503599627370496 ≤ r := h
  have h2 : (r + p52) / p52 - 1 = (r / p52 - 1) + 1 := by rw [e]; omega
  rw [h1, h2, Nat.pow_succ, Nat.mul_assoc]
theorem U_le {r s : Nat} (h : r ≤ s) : U r ≤ U s := by
  rcases Nat.lt_or_ge r s with g | g
  · exact Nat.le_of_lt (U_mono g)
  · obtain rfl : r = s := by omega
    exact Nat.le_refl _
theorem ck_V {x : Nat} (h : x < p63) : V x = (U x : Int) := by
  obtain ⟨-, h2, h3⟩ := ck_key h
  unfold V
  rw [h2, h3]
  rfl
theorem ck_mono {x y x' y' : Nat} (hx : x < infR) (hy : y < infR) (hx' : x' < infR) (hy' : y' < infR) (h0 : y ≠ 0) (h0' : y' ≠ 0) (h1 : x ≤ x') (h2 : y' ≤ y) : key (cop .quo x y) ≤ key (cop .quo x' y') := by
  have e2 : infR = 9218868437227405312 := rfl
  have e63 : p63 = 9223372036854775808 := rfl
  have m : ∀ {z : Nat}, z < infR → z % p63 < infR := fun {z} hz => by rw [Nat.mod_eq_of_lt (by omega)]; exact hz
  have kp : ∀ {z : Nat}, z < infR → z ≠ 0 → 0 < key z := fun {z} hz hn => by rw [(ck_key (x := z) (by omega)).1]; omega
  refine quo_mono (m hx) (m hy) (m hx') (m hy') (.inl ⟨kp hy h0, kp hy' h0'⟩) ?_
  rw [ck_V (by omega), ck_V (by omega), ck_V (by omega), ck_V (by omega), ← Int.natCast_mul, ← Int.natCast_mul]
  exact Int.ofNat_le.2 (Nat.mul_le_mul (U_le h1) (U_le h2))
theorem ck_lo : 2 * p52 < cop .quo ckLo ckHi ∧ cop .quo ckLo ckHi < p63 := by decide +kernel
theorem ck_hi : cop .quo ckHi ckLo < infR := by decide +kernel
/-- Quotients of such: what is told of them, of both twice, of twice the one. -/
theorem ck_all {x y : Nat} (hx : Md x) (hy : Md y) : ∃ r, 2 * p52 < r ∧ r < infR ∧ cop .quo x y = r ∧ cop .quo (x + p52) (y + p52) = r ∧ cop .quo x (y + p52) + p52 = r := by
  have e2 : infR = 9218868437227405312 := rfl
  have e52 : p52 = 4503599627370496 := rfl
  have e63 : p63 = 9223372036854775808 := rfl
  have el : ckLo = 3110860544497550640 := rfl
  have eh : ckHi = 6103021453049119613 := rfl
  have x1 := hx.lo
  have x2 := hx.hi
  have y1 := hy.lo
  have y2 := hy.hi
  obtain ⟨r, r1, r2, r3, r4⟩ := ck_quo (x := x) (y := y) (x2 := x + p52) (y2 := y + p52) (by omega) (by omega) (by omega) (by omega) (by omega) (by omega) (U_binade (by omega)) (U_binade (by omega))
  have k1 := ck_mono (x := ckLo) (y := ckHi) (x' := x) (y' := y) (by omega) (by omega) (by omega) (by omega) (by omega) (by omega) (by omega) (by omega)
  have k2 := ck_mono (x := x) (y := y) (x' := ckHi) (y' := ckLo) (by omega) (by omega) (by omega) (by omega) (by omega) (by omega) (by omega) (by omega)
  rw [r2] at k1 k2
  rw [(ck_key (x := r) (by omega)).1] at k1 k2
  have c1 := ck_lo
  have c2 := ck_hi
  rw [(ck_key c1.2).1] at k1
  rw [(ck_key (x := cop .quo ckHi ckLo) (by omega)).1] at k2
  have q1 : 2 * p52 < r := by omega
  have q2 : r < infR := by omega
  exact ⟨r, q1, q2, r2, r3, r4 q1 q2⟩
def ckE : Nat := 1074
theorem ck_Uone : U 4607182418800017408 = 2 ^ ckE := by decide +kernel
theorem ck_Utwo : U 4611686018427387904 = U 4607182418800017408 * 2 := by decide +kernel
theorem ck_one {g : Nat} (h : g < infR) : double.div g 4607182418800017408 = some (double.word false g) := by
  have e2 : infR = 9218868437227405312 := rfl
  have e63 : p63 = 9223372036854775808 := rfl
  have mg : g % p63 = g := Nat.mod_eq_of_lt (by omega)
  have ng := (ck_key (x := g) (by omega)).2.1
  have m1 : 4607182418800017408 % p63 = 4607182418800017408 := by decide
  have n1 : neg 4607182418800017408 = false := by decide
  obtain ⟨L0, g1⟩ := quo_big (x := g) (y := 4607182418800017408) (by omega) (by decide) (by decide)
  obtain ⟨j, hj⟩ : ∃ j, j = L0 := ⟨_, rfl⟩
  have f := g1 (j + ckE) (by omega)
  rw [mg, ng, m1, n1, ck_Uone, Nat.pow_add, ← Nat.mul_assoc] at f
  have hst : st (U g * 2 ^ j * 2 ^ ckE) (2 ^ ckE) = U g * 2 ^ (j + 1) := by
    have := st_scale (U g * 2 ^ j) 1 (c := 2 ^ ckE) (Nat.two_pow_pos _)
    rw [Nat.one_mul] at this
    rw [this]
    unfold st
    rw [Nat.div_one, Nat.mod_one, Nat.pow_succ, Nat.mul_comm 2, Nat.mul_assoc]
    rfl
  rw [hst] at f
  have c : (-1 : Int) - ((j + ckE : Nat) : Int) = -1074 - ((j + 1 : Nat) : Int) := by
    have : ckE = 1074 := rfl
    omega
  rw [c, rungOf_scale, rungOf_U (by omega)] at f
  exact f
/-- Half of it. -/
theorem ck_half {g : Nat} (h1 : 2 * p52 < g) (h2 : g < infR) : cop .quo g 4611686018427387904 + p52 = g := by
  have e2 : infR = 9218868437227405312 := rfl
  have e63 : p63 = 9223372036854775808 := rfl
  have mg : g % p63 = g := Nat.mod_eq_of_lt (by omega)
  have m1 : 4607182418800017408 % p63 = 4607182418800017408 := by decide
  have m2 : 4611686018427387904 % p63 = 4611686018427387904 := by decide
  have n1 : neg 4607182418800017408 = false := by decide
  have ng := (ck_key (x := g) (by omega)).2.1
  obtain ⟨r, r0, k1, k2⟩ := quo_half (x := g) (y := 4607182418800017408) (y2 := 4611686018427387904) (by omega) (by decide) (by decide) (by decide) (by decide) (by rw [m1, m2]; exact ck_Utwo) (by decide)
  rw [ng, n1, show (false ^^ false) = false from rfl] at k1 k2
  rw [ck_one h2, Option.some.injEq, (ck_word (r := g) (by omega)).1, (ck_word r0).1] at k1
  subst k1
  obtain ⟨r2, r3, k3, k4⟩ := k2 h1 h2
  rw [(ck_word r3).1] at k3
  rw [ck_cop k3 (ck_num r3)]
  exact k4
end Go.Proofs.Ytclhgnhbmlkomaa
