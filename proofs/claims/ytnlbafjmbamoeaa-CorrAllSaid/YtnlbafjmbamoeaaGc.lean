/-
  Operations on what is no number; a product and a sum rounded once; a sign turned; whole numbers as floats. No condition but those in the statements.
  Floats that are whole numbers times a power of two: sums, differences, products of those, and how they are rounded, as whole numbers. No condition but those in the statements.
  Quotients of floats that are whole numbers times a power of two: where they come out even. No condition but those in the statements.
-/
import Derived.Test.YtnlbafjmbamoeaaGb
import Derived.Laws.Externs
namespace Go.Proofs.Ytnlbafjmbamoeaa
open Ieee (double)

theorem isN_true {x : Nat} (h : isN x = true) : infR < x % p63 := by unfold isN at h; simpa using h
theorem read_isN {x : Nat} (h : isN x = true) : ∃ s t, double.read x = .nan s t := ⟨_, _, read_nan (isN_true h)⟩

theorem fb_nan_left (op : BinOp) {x : Nat} (y : Nat) (h : isN x = true) : floatBits op .f64 x y = none := by
  obtain ⟨s, t, e⟩ := read_isN h
  unfold floatBits
  cases op <;> simp only [FloatKind.format, Ieee.Format.add, Ieee.Format.sub, Ieee.Format.mul, Ieee.Format.div, e] <;> cases double.read y <;> rfl
theorem fb_nan_right (op : BinOp) (x : Nat) {y : Nat} (h : isN y = true) : floatBits op .f64 x y = none := by
  obtain ⟨s, t, e⟩ := read_isN h
  unfold floatBits
  cases op <;> simp only [FloatKind.format, Ieee.Format.add, Ieee.Format.sub, Ieee.Format.mul, Ieee.Format.div, e] <;> cases double.read x <;> rfl

theorem cop_canon_left (op : BinOp) (x y : Nat) : cop op (canon x) y = cop op x y := by
  by_cases h : isN x = true
  · unfold cop; rw [fb_nan_left op y h, fb_nan_left op y ((isN_canon x).trans h)]
  · rw [canon_num (by simpa using h)]
theorem cop_canon_right (op : BinOp) (x y : Nat) : cop op x (canon y) = cop op x y := by
  by_cases h : isN y = true
  · unfold cop; rw [fb_nan_right op x h, fb_nan_right op x ((isN_canon y).trans h)]
  · rw [canon_num (by simpa using h)]
theorem canon_cop (op : BinOp) (x y : Nat) : canon (cop op x y) = cop op x y := by
  unfold cop
  cases floatBits op .f64 x y with
  | some r => exact canon_canon r
  | none => decide
/-- The canonical form of an operation on what has canonical forms. -/
theorem canon_fval' {op : BinOp} {w : World} {x y a b : Nat} (hx : canon x = canon a) (hy : canon y = canon b) : canon (fval op w x y) = cop op a b := by
  rw [canon_fval, ← cop_canon_left, ← cop_canon_right, hx, hy, cop_canon_left, cop_canon_right]
theorem cc {x a b : Nat} {op : BinOp} (h : canon x = cop op a b) : canon x = canon (cop op a b) := h.trans (canon_cop _ _ _).symm
theorem cop_some {op : BinOp} {x y r : Nat} (h : floatBits op .f64 x y = some r) : cop op x y = canon r := by unfold cop; rw [h]

theorem cop_lt (op : BinOp) (x y : Nat) : cop op x y < 18446744073709551616 := by
  unfold cop
  cases h : floatBits op .f64 x y with
  | some r =>
    have := floatBits_wf h
    exact canon_lt (by simpa [Lit.wf] using this)
  | none => decide
/-- A number less itself is 0 just where it is finite. -/
theorem sub_self_zero {x : Nat} : eqB (cop .sub x x) 0 = decide (x % p63 < infR) := by
  by_cases h : x % p63 < infR
  · have e := sub_fin h h
    rw [Int.sub_self] at e
    rw [cop_some (op := .sub) (r := _) e, decide_eq_true h]
    cases neg x <;> decide
  · rw [decide_eq_false h]
    have e : floatBits .sub .f64 x x = none := by
      by_cases g : x % p63 = infR
      · unfold floatBits
        simp only [FloatKind.format, Ieee.Format.sub]
        rw [read_inf g]
        cases neg x <;> rfl
      · exact fb_nan_left _ _ (by unfold isN; rw [decide_eq_true_eq]; omega)
    unfold cop; rw [e]; decide

/-- With the sign turned. -/
def flip (x : Nat) : Nat := Op.negFloat .f64 x
theorem flip_eq {x : Nat} (hx : x < 18446744073709551616) : flip x = double.word (!neg x) (x % p63) := by
  have e : flip x = x ^^^ 2 ^ 63 := rfl
  rw [e, word_eq]
  have ht : neg x = x.testBit 63 := by
    unfold neg p63; rw [Nat.testBit_eq_decide_div_mod_eq]; rfl
  apply Nat.eq_of_testBit_eq
  intro i
  rw [Nat.testBit_xor, Nat.testBit_two_pow]
  have hm : x % p63 = x % 2 ^ 63 := rfl
  have hml : x % 2 ^ 63 < 2 ^ 63 := Nat.mod_lt _ (by decide)
  have hw : p63 + x % p63 = 2 ^ 63 ||| x % 2 ^ 63 := by
    have := Nat.two_pow_add_eq_or_of_lt (i := 63) hml 1
    rw [Nat.mul_one] at this; rw [hm]; exact this
  by_cases hi : 63 = i
  · subst hi
    rw [ht]
    cases hb : x.testBit 63
    · simp only [Bool.not_false, if_true, hw, Nat.testBit_or, Nat.testBit_two_pow]; simp
    · simp only [Bool.not_true, Bool.false_eq_true, if_false, hm, Nat.testBit_mod_two_pow]; simp
  · rw [ht]
    by_cases hl : i < 63
    · cases hb : x.testBit 63
      · simp only [Bool.not_false, if_true, hw, Nat.testBit_or, Nat.testBit_two_pow, Nat.testBit_mod_two_pow]; simp [hi, hl]
      · simp only [Bool.not_true, Bool.false_eq_true, if_false, hm, Nat.testBit_mod_two_pow]; simp [hi, hl]
    · have hx0 : x.testBit i = false := Nat.testBit_lt_two_pow (Nat.lt_of_lt_of_le hx (show 18446744073709551616 ≤ 2 ^ i from Nat.le_trans (show 18446744073709551616 ≤ 2 ^ 64 by decide) (Nat.pow_le_pow_right (by decide) (by omega))))
      rw [hx0]
      cases hb : x.testBit 63
      · simp only [Bool.not_false, if_true, hw, Nat.testBit_or, Nat.testBit_two_pow, Nat.testBit_mod_two_pow]; simp [hi, hl]
      · simp only [Bool.not_true, Bool.false_eq_true, if_false, hm, Nat.testBit_mod_two_pow]; simp [hi, hl]
theorem flip_lt {x : Nat} (hx : x < 18446744073709551616) : flip x < 18446744073709551616 := by
  rw [flip_eq hx, word_eq]; have : x % p63 < p63 := Nat.mod_lt _ (by decide)
  unfold p63 at *; split <;> omega
theorem flip_mod {x : Nat} (hx : x < 18446744073709551616) : flip x % p63 = x % p63 := by
  rw [flip_eq hx, word_eq]; have : x % p63 < p63 := Nat.mod_lt _ (by decide)
  generalize x % p63 = r at *
  unfold p63 at *; split <;> omega
theorem flip_isN {x : Nat} (hx : x < 18446744073709551616) : isN (flip x) = isN x := by unfold isN; rw [flip_mod hx]

/-- A product and a sum, rounded once. -/
def fmav (w : World) (x y z : Nat) : Nat := match double.fma x y z with
  | some r => r
  | none => (Question.nanBits .f64 (if Extern.MathFMA.isNaN x then x else if Extern.MathFMA.isNaN y then y else z) (if Extern.MathFMA.isNaN x then y else if Extern.MathFMA.isNaN y then z else z)).cut (w.tape w.drawn (.nanBits .f64 (if Extern.MathFMA.isNaN x then x else if Extern.MathFMA.isNaN y then y else z) (if Extern.MathFMA.isNaN x then y else if Extern.MathFMA.isNaN y then z else z)))
def fman (x y z : Nat) : Nat := if (double.fma x y z).isSome then 0 else 1
def cfma (x y z : Nat) : Nat := match double.fma x y z with | some r => canon r | none => nanB
theorem run_fma (P : Program) (w : World) (x y z : Nat) : (Extern.MathFMA.fma #[.float .f64 x, .float .f64 y, .float .f64 z]).run P w = .ok (.float .f64 (fmav w x y z)) (w.drewN (fman x y z)) := by
  have e : Extern.MathFMA.fma #[.float .f64 x, .float .f64 y, .float .f64 z] = (match double.fma x y z with
    | some r => pure (.float .f64 r)
    | none => do
      let (a, b) := if Extern.MathFMA.isNaN x then (x, y) else if Extern.MathFMA.isNaN y then (y, z) else (z, z)
      pure (.float .f64 (← choose (.nanBits .f64 a b)))) := rfl
  rw [e]
  cases h : double.fma x y z with
  | some r =>
    have e1 : fmav w x y z = r := by unfold fmav; rw [h]
    have e2 : fman x y z = 0 := by unfold fman; rw [h]; rfl
    rw [e1, e2]
    rfl
  | none =>
    have e2 : fman x y z = 1 := by unfold fman; rw [h]; rfl
    rw [e2]
    unfold fmav
    simp only [h]
    by_cases g1 : Extern.MathFMA.isNaN x = true
    · simp [g1, Question.forced]; rfl
    · by_cases g2 : Extern.MathFMA.isNaN y = true
      · simp [g1, g2, Question.forced]; rfl
      · simp [g1, g2, Question.forced]; rfl
theorem canon_fmav (w : World) (x y z : Nat) : canon (fmav w x y z) = cfma x y z := by
  unfold fmav cfma
  cases double.fma x y z with
  | some r => rfl
  | none => simp only []; unfold canon; rw [(cut_isN _ _ _).1]; rfl
theorem fmav_lt (w : World) (x y z : Nat) : fmav w x y z < 18446744073709551616 := by
  unfold fmav
  cases h : double.fma x y z with
  | some r => exact Ieee.Format.fma_lt double h
  | none => exact (cut_isN _ _ _).2
theorem fma_nan (x y : Nat) {z : Nat} (h : isN z = true) : double.fma x y z = none := by
  obtain ⟨s, t, e⟩ := read_isN h
  unfold Ieee.Format.fma
  rw [e]
  cases (double.read x).product (double.read y) with
  | none => rfl
  | some d => cases d <;> rfl
theorem fma_nan_left {x : Nat} (y z : Nat) (h : isN x = true) : double.fma x y z = none := by
  obtain ⟨s, t, e⟩ := read_isN h
  unfold Ieee.Format.fma
  rw [e]
  cases double.read y <;> rfl
theorem fma_nan_mid (x : Nat) {y : Nat} (z : Nat) (h : isN y = true) : double.fma x y z = none := by
  obtain ⟨s, t, e⟩ := read_isN h
  unfold Ieee.Format.fma
  rw [e]
  cases double.read x <;> rfl
theorem cfma_canon (x y z : Nat) : cfma x y (canon z) = cfma x y z := by
  by_cases h : isN z = true
  · unfold cfma; rw [fma_nan x y h, fma_nan x y ((isN_canon z).trans h)]
  · rw [canon_num (by simpa using h)]
theorem cfma_flip {z c : Nat} (x y : Nat) (hz : z < 18446744073709551616) (hc : c < 18446744073709551616) (h : canon z = canon c) : cfma x y (flip z) = cfma x y (flip c) := by
  by_cases hn : isN z = true
  · have hn' : isN c = true := by rw [← isN_canon, ← h, isN_canon]; exact hn
    unfold cfma; rw [fma_nan x y ((flip_isN hz).trans hn), fma_nan x y ((flip_isN hc).trans hn')]
  · have hn1 : isN z = false := by simpa using hn
    have hn' : isN c = false := by rw [← isN_canon, ← h, isN_canon]; exact hn1
    rw [canon_num hn1, canon_num hn'] at h; rw [h]

/-- Whole numbers as floats. -/
theorem ofInt_eq (n : Int) : floatOfInt .f64 n = double.word (decide (n < 0)) (rungOf n.natAbs 0) := nearest_eq _ _ _
theorem ofInt_lt (n : Int) : floatOfInt .f64 n < 18446744073709551616 := by rw [ofInt_eq]; exact word_lt _ (rungOf_le_inf _ _)
theorem ofInt_isN (n : Int) : isN (floatOfInt .f64 n) = false := by rw [ofInt_eq]; exact word_isN _ (rungOf_le_inf _ _)

theorem rungOf_small {m : Nat} (h : m < 2 ^ 64) : rungOf m 0 < infR :=
  Nat.lt_of_le_of_lt (rungOf_mono 0 (Nat.le_of_lt h)) (by decide +kernel)
theorem ofInt_fin {n : Int} (h1 : -18446744073709551616 < n) (h2 : n < 18446744073709551616) : floatOfInt .f64 n % p63 < infR := by
  rw [ofInt_eq, word_mod _ (rungOf_le_inf _ _)]; exact rungOf_small (by omega)
/-- One unit, of the least: 2^1074 of them are 1. -/
def low74 : Nat := 1074
def unit : Nat := 2 ^ low74
theorem unit_def : unit = 2 ^ low74 := by unfold unit; rfl
theorem unit_pos : 0 < unit := by unfold unit; exact Nat.two_pow_pos _
/-- A whole number below 2^53 is itself as a float. -/
theorem V_ofInt {n : Int} (h1 : -9007199254740992 ≤ n) (h2 : n ≤ 9007199254740992) : V (floatOfInt .f64 n) = n * unit := by
  rw [ofInt_eq, word_V _ (rungOf_le_inf _ _)]
  have hU : U (rungOf n.natAbs 0) = n.natAbs * unit := by
    by_cases h : n.natAbs < 2 ^ 53
    · have := U_rungOf (m := n.natAbs) (p := 0) h (by decide) (rungOf_small (by omega))
      rw [this, show ((0 : Int) + 1074).toNat = low74 from rfl, ← unit_def]
    · have e : n.natAbs = 1 * 2 ^ 53 := by omega
      have := rungOf_scale 1 53 53
      rw [show (53 : Int) - ((53 : Nat) : Int) = 0 by decide] at this
      rw [e, this]
      have hb : rungOf 1 53 < infR := by decide +kernel
      have := U_rungOf (m := 1) (p := 53) (by decide) (by decide) hb
      rw [this, Nat.one_mul, Nat.one_mul, show ((53 : Int) + 1074).toNat = 53 + low74 from rfl, Nat.pow_add, ← unit_def]
  rw [hU]
  unfold sgd
  by_cases hn : n < 0
  · simp only [hn, decide_true, if_true]
    rw [Int.natCast_mul, ← Int.neg_mul]; congr 1; omega
  · simp only [hn, decide_false, Bool.false_eq_true, if_false]
    rw [Int.natCast_mul]; congr 1; omega

/-- What the sum leaves. -/
def sumRest (a b : Nat) : Nat :=
  cop .add (cop .sub a (cop .sub (cop .add a b) (cop .sub (cop .add a b) a))) (cop .sub b (cop .sub (cop .add a b) a))
def mulRest (a b : Nat) : Nat := cfma a b (flip (cop .mul a b))
def mulRest0 (a b : Nat) : Nat := cfma a b (cop .sub 0 (cop .mul a b))


end Go.Proofs.Ytnlbafjmbamoeaa

namespace Go.Proofs.Ytnlbafjmbamoeaa
open Ieee (double)

/-- A whole number to 53 digits. -/
def rnN (m : Nat) : Nat := rne m (m.log2 - 52) * 2 ^ (m.log2 - 52)
def rn (m : Int) : Int := if m < 0 then -(rnN m.natAbs : Int) else rnN m.natAbs

theorem log2_small {m : Nat} (h : m < 2 ^ 53) : m.log2 - 52 = 0 := by
  by_cases h0 : m = 0
  · subst h0; decide
  · have a := pow_log_le h0
    have : 2 ^ m.log2 < 2 ^ 53 := by omega
    have := (Nat.pow_lt_pow_iff_right (a := 2) (by decide)).1 this
    omega
theorem rnN_small {m : Nat} (h : m < 2 ^ 53) : rnN m = m := by
  unfold rnN; rw [log2_small h, rne_zero]; simp
theorem rnN_pow (k : Nat) (hk : k ≤ 100) : rnN (2 ^ k) = 2 ^ k := by
  unfold rnN
  have : (2 ^ k).log2 = k := by rw [Nat.log2_eq_iff (by have := Nat.two_pow_pos k; omega)]; exact ⟨Nat.le_refl _, Nat.pow_lt_pow_right (by decide) (by omega)⟩
  rw [this]
  by_cases h : k ≤ 52
  · rw [show k - 52 = 0 by omega, rne_zero]; simp
  · have e : (2 : Nat) ^ k = 2 ^ 52 * 2 ^ (k - 52) := by rw [← Nat.pow_add]; congr 1; omega
    have := rne_scale (2 ^ 52) 0 (k - 52)
    rw [Nat.zero_add] at this
    rw [e, this, rne_zero]
theorem rn_small {m : Int} (h1 : -9007199254740992 ≤ m) (h2 : m ≤ 9007199254740992) : rn m = m := by
  have : rnN m.natAbs = m.natAbs := by
    by_cases h : m.natAbs < 2 ^ 53
    · exact rnN_small h
    · rw [show m.natAbs = 2 ^ 53 by omega]; exact rnN_pow 53 (by decide)
  unfold rn; rw [this]; split <;> omega

theorem rne_err (n d : Nat) : 2 * n ≤ 2 * (rne n d * 2 ^ d) + 2 ^ d ∧ 2 * (rne n d * 2 ^ d) ≤ 2 * n + 2 ^ d := by
  unfold rne
  have h := Nat.div_add_mod n (2 ^ d)
  have hl : n % 2 ^ d < 2 ^ d := Nat.mod_lt _ (Nat.two_pow_pos _)
  rw [Nat.mul_comm] at h
  split
  · rw [Nat.add_mul]; generalize n / 2 ^ d * 2 ^ d = q at *; omega
  · rw [Nat.add_zero]; generalize n / 2 ^ d * 2 ^ d = q at *; omega
theorem rnN_err {m B : Nat} (h : m.log2 - 52 ≤ B) : 2 * m ≤ 2 * rnN m + 2 ^ B ∧ 2 * rnN m ≤ 2 * m + 2 ^ B := by
  have a := rne_err m (m.log2 - 52)
  have b : 2 ^ (m.log2 - 52) ≤ 2 ^ B := Nat.pow_le_pow_right (by decide) h
  unfold rnN; omega
theorem log2_lt_of {m k : Nat} (h : m < 2 ^ k) : m.log2 - 52 ≤ k - 53 := by
  by_cases h0 : m = 0
  · subst h0; simp
  · have a := pow_log_le h0
    have : 2 ^ m.log2 < 2 ^ k := by omega
    have := (Nat.pow_lt_pow_iff_right (a := 2) (by decide)).1 this
    omega
/-- How far off rounding is, below 2^k. -/
theorem rn_err {m : Int} (k : Nat) (h : m.natAbs < 2 ^ k) : 2 * (rn m - m) ≤ (2 ^ (k - 53) : Nat) ∧ -((2 ^ (k - 53) : Nat) : Int) ≤ 2 * (rn m - m) := by
  have a := rnN_err (log2_lt_of h)
  unfold rn; split <;> omega

theorem rne_bounds {m d : Nat} (h1 : 2 ^ (d + 52) ≤ m) (h2 : m < 2 ^ (d + 53)) : p52 ≤ rne m d ∧ rne m d ≤ 2 * p52 := by
  have a := pow_le_rne h1
  have b := rne_le_pow h2
  have e1 : (2 : Nat) ^ 52 = p52 := by decide
  have e2 : (2 : Nat) ^ 53 = 2 * p52 := by decide
  omega

theorem U_field {E t : Nat} (h1 : p52 ≤ t) (h2 : t ≤ 2 * p52) : U (E * p52 + t) = t * 2 ^ E := by
  have hp : 0 < p52 := by decide
  by_cases h3 : t = 2 * p52
  · subst h3
    have d1 : (E * p52 + 2 * p52) / p52 = E + 2 := by rw [← Nat.add_mul, Nat.mul_div_cancel _ hp]
    have d2 : (E * p52 + 2 * p52) % p52 = 0 := by rw [← Nat.add_mul, Nat.mul_mod_left]
    unfold U
    rw [if_neg (by omega), d1, d2, Nat.add_zero, show E + 2 - 1 = E + 1 by omega, Nat.pow_succ, Nat.mul_comm (2 ^ E) 2, ← Nat.mul_assoc, Nat.mul_comm p52 2]
  · have d1 : (E * p52 + t) / p52 = E + 1 := by
      apply Nat.div_eq_of_lt_le
      · rw [Nat.add_mul]; omega
      · rw [Nat.add_mul, Nat.add_mul]; omega
    have d2 := Nat.div_add_mod (E * p52 + t) p52
    unfold U
    rw [if_neg (by omega), d1, show E + 1 - 1 = E by omega]
    congr 1
    rw [d1, Nat.mul_add, Nat.mul_comm p52 E] at d2
    omega

/-- What a whole number at a place that is not too low is rounded to. -/
theorem U_round {m : Nat} {p : Int} (hp : -1074 ≤ p) (hf : rungOf m p < infR) : U (rungOf m p) = rnN m * 2 ^ (p + 1074).toNat := by
  by_cases h : m < 2 ^ 53
  · rw [U_rungOf h hp hf, rnN_small h]
  · have h0 : m ≠ 0 := by omega
    have hl : 53 ≤ m.log2 := by
      have b := lt_pow_log m
      have : 2 ^ 53 < 2 ^ (m.log2 + 1) := by omega
      have := (Nat.pow_lt_pow_iff_right (a := 2) (by decide)).1 this
      omega
    have a := pow_log_le h0; have b := lt_pow_log m
    unfold rungOf at hf ⊢
    rw [if_neg h0] at hf ⊢
    rw [show max (p + (m.log2 : Int) - 52) (-1074) = p + m.log2 - 52 by omega] at hf ⊢
    rw [show (p - (p + (m.log2 : Int) - 52)).toNat = 0 by omega, Nat.pow_zero, Nat.mul_one, show (p + (m.log2 : Int) - 52 - p).toNat = m.log2 - 52 by omega,
      show (p + (m.log2 : Int) - 52 + 1074).toNat = (p + 1074).toNat + (m.log2 - 52) by omega] at hf ⊢
    rw [Nat.min_eq_left (by omega)]
    obtain ⟨r1, r2⟩ := rne_bounds (m := m) (d := m.log2 - 52) (by rw [show m.log2 - 52 + 52 = m.log2 by omega]; exact a) (by rw [show m.log2 - 52 + 53 = m.log2 + 1 by omega]; exact b)
    rw [U_field r1 r2]
    unfold rnN
    rw [Nat.add_comm (p + 1074).toNat, Nat.pow_add, ← Nat.mul_assoc]

/-- The float is m times 2^k. -/
def Is (a : Nat) (m : Int) (k : Int) : Prop := a < 18446744073709551616 ∧ a % p63 < infR ∧ -1074 ≤ k ∧ V a = m * (2 ^ (k + 1074).toNat : Nat)

theorem Is.fin {a : Nat} {m k : Int} (h : Is a m k) : a % p63 < infR := h.2.1
theorem Is.num {a : Nat} {m k : Int} (h : Is a m k) : isN a = false := isN_of_le (Nat.le_of_lt h.2.1)
theorem Is.lt {a : Nat} {m k : Int} (h : Is a m k) : a < 18446744073709551616 := h.1

theorem Is.down {a : Nat} {m k : Int} (h : Is a m k) (j : Nat) (hj : -1074 ≤ k - j) : Is a (m * (2 ^ j : Nat)) (k - j) := by
  refine ⟨h.1, h.2.1, hj, ?_⟩
  rw [h.2.2.2, Int.mul_assoc, ← Int.natCast_mul, ← Nat.pow_add]
  congr 3; omega

/-- Not so great as to be infinite. -/
def Fits (m k : Int) : Prop := rungOf m.natAbs k < infR
theorem fits_of {m k : Int} (B : Nat) (c : Nat) (hm : m.natAbs < 2 ^ B) (hk : k + B ≤ c) (hc : c ≤ 1023) : Fits m k := by
  unfold Fits
  have h1 : rungOf m.natAbs k ≤ rungOf (2 ^ B) k := rungOf_mono k (Nat.le_of_lt hm)
  have h2 := rungOf_scale 1 (k + B) B
  rw [Nat.one_mul, show k + (B : Int) - (B : Nat) = k by omega] at h2
  have h3 : rungOf 1 (k + B) ≤ rungOf 1 1023 := by
    obtain ⟨j, hj⟩ : ∃ j : Nat, (j : Int) = 1023 - (k + B) := ⟨(1023 - (k + B)).toNat, by omega⟩
    have := rungOf_scale 1 1023 j
    rw [show (1023 : Int) - (j : Nat) = k + B by omega, Nat.one_mul] at this
    rw [← this]
    exact rungOf_mono _ (Nat.two_pow_pos _)
  have h4 : rungOf 1 1023 < infR := by decide +kernel
  omega

/-- A word whose rung is what m at place k is rounded to. -/
theorem is_word {s : Bool} {m k : Int} (hk : -1074 ≤ k) (hf : Fits m k) (hs : m ≠ 0 → s = decide (m < 0)) : Is (double.word s (rungOf m.natAbs k)) (rn m) k := by
  have hle := rungOf_le_inf m.natAbs k
  refine ⟨word_lt _ hle, by rw [word_mod _ hle]; exact hf, hk, ?_⟩
  rw [word_V _ hle, U_round hk hf]
  unfold rn sgd
  by_cases h0 : m = 0
  · subst h0
    have : rnN (Int.natAbs 0) = 0 := rnN_small (by decide)
    rw [this]; cases s <;> simp
  · rw [hs h0]
    by_cases hn : m < 0
    · simp only [hn, decide_true, if_true]; rw [Int.natCast_mul, Int.neg_mul]
    · simp only [hn, decide_false, Bool.false_eq_true, if_false]; rw [Int.natCast_mul]

theorem natAbs_pow (m : Int) (n : Nat) : (m * (2 ^ n : Nat)).natAbs = m.natAbs * 2 ^ n := by rw [Int.natAbs_mul, Int.natAbs_natCast]
theorem mul_pow_neg (m : Int) (n : Nat) : m * (2 ^ n : Nat) < 0 ↔ m < 0 := by
  have hp : 0 < 2 ^ n := Nat.two_pow_pos _
  constructor
  · intro h; rcases Int.lt_or_le m 0 with g | g
    · exact g
    · have := Int.mul_nonneg g (show (0 : Int) ≤ (2 ^ n : Nat) by omega); omega
  · intro h; exact Int.mul_neg_of_neg_of_pos h (by omega)
theorem mul_pow_zero (m : Int) (n : Nat) : m * (2 ^ n : Nat) = 0 ↔ m = 0 := by
  have hp : 0 < 2 ^ n := Nat.two_pow_pos _
  constructor
  · intro h; rcases Int.mul_eq_zero.1 h with g | g
    · exact g
    · omega
  · intro h; rw [h, Int.zero_mul]
theorem rung_place (m : Nat) {k : Int} (hk : -1074 ≤ k) : rungOf (m * 2 ^ (k + 1074).toNat) (-1074) = rungOf m k := by
  have := rungOf_scale m k (k + 1074).toNat
  rw [show k - ((k + 1074).toNat : Int) = -1074 by omega] at this; exact this

theorem is_add {a b : Nat} {m n k : Int} (ha : Is a m k) (hb : Is b n k) (hf : Fits (m + n) k) : ∃ r, double.add a b = some r ∧ Is r (rn (m + n)) k := by
  refine ⟨_, add_fin ha.2.1 hb.2.1, ?_⟩
  have hV : V a + V b = (m + n) * (2 ^ (k + 1074).toNat : Nat) := by rw [ha.2.2.2, hb.2.2.2, Int.add_mul]
  rw [hV, natAbs_pow, rung_place _ ha.2.2.1]
  refine is_word ha.2.2.1 hf fun h0 => ?_
  rw [if_neg (fun e => h0 ((mul_pow_zero _ _).1 e))]
  simp only [mul_pow_neg]
theorem is_sub {a b : Nat} {m n k : Int} (ha : Is a m k) (hb : Is b n k) (hf : Fits (m - n) k) : ∃ r, double.sub a b = some r ∧ Is r (rn (m - n)) k := by
  refine ⟨_, sub_fin ha.2.1 hb.2.1, ?_⟩
  have hV : V a - V b = (m - n) * (2 ^ (k + 1074).toNat : Nat) := by rw [ha.2.2.2, hb.2.2.2, Int.sub_mul]
  rw [hV, natAbs_pow, rung_place _ ha.2.2.1]
  refine is_word ha.2.2.1 hf fun h0 => ?_
  rw [if_neg (fun e => h0 ((mul_pow_zero _ _).1 e))]
  simp only [mul_pow_neg]

theorem U_of_V {a : Nat} {m k : Int} (h : Is a m k) : U (a % p63) = m.natAbs * 2 ^ (k + 1074).toNat ∧ (m ≠ 0 → neg a = decide (m < 0)) := by
  have hV := h.2.2.2
  have e : (V a).natAbs = U (a % p63) := by unfold V sgd; split <;> simp
  refine ⟨by rw [← e, hV, natAbs_pow], fun h0 => ?_⟩
  have hs : V a < 0 ↔ m < 0 := by rw [hV]; exact mul_pow_neg _ _
  have hz : V a ≠ 0 := fun e0 => h0 ((mul_pow_zero _ _).1 (hV ▸ e0))
  unfold V sgd at hs hz
  cases hn : neg a
  · rw [hn] at hs hz; simp only [Bool.false_eq_true, if_false] at hs hz
    symm; rw [decide_eq_false_iff_not]; omega
  · rw [hn] at hs hz; simp only [if_true] at hs hz
    symm; rw [decide_eq_true_eq]; omega

theorem is_mul {a b : Nat} {m n k l : Int} (ha : Is a m k) (hb : Is b n l) (hk : -1074 ≤ k + l) (hf : Fits (m * n) (k + l)) : ∃ r, double.mul a b = some r ∧ Is r (rn (m * n)) (k + l) := by
  refine ⟨_, mul_fin ha.2.1 hb.2.1, ?_⟩
  obtain ⟨u1, s1⟩ := U_of_V ha
  obtain ⟨u2, s2⟩ := U_of_V hb
  have e : U (a % p63) * U (b % p63) = (m * n).natAbs * 2 ^ ((k + 1074).toNat + (l + 1074).toNat) := by
    rw [u1, u2, Int.natAbs_mul, Nat.pow_add]
    simp only [Nat.mul_assoc, Nat.mul_left_comm]
  have h1 := ha.2.2.1; have h2 := hb.2.2.1
  have r := rungOf_scale (m * n).natAbs (k + l) ((k + 1074).toNat + (l + 1074).toNat)
  rw [show k + l - (((k + 1074).toNat + (l + 1074).toNat : Nat) : Int) = -2148 by omega] at r
  rw [e, r]
  refine is_word hk hf fun h0 => ?_
  have hm : m ≠ 0 := fun e => h0 (by rw [e, Int.zero_mul])
  have hn : n ≠ 0 := fun e => h0 (by rw [e, Int.mul_zero])
  rw [s1 hm, s2 hn]
  by_cases g1 : m < 0 <;> by_cases g2 : n < 0
  · have : 0 < m * n := Int.mul_pos_of_neg_of_neg g1 g2
    simp [g1, g2, show ¬ m * n < 0 by omega]
  · have : m * n < 0 := Int.mul_neg_of_neg_of_pos g1 (by omega)
    simp [g1, g2, this]
  · have : m * n < 0 := Int.mul_neg_of_pos_of_neg (by omega) g2
    simp [g1, g2, this]
  · have : 0 < m * n := Int.mul_pos (by omega) (by omega)
    simp [g1, g2, show ¬ m * n < 0 by omega]

/-- A product and a sum, rounded once. -/
theorem is_fma {a b c : Nat} {m n q k l : Int} (ha : Is a m k) (hb : Is b n l) (hc : Is c q (k + l)) (hf : Fits (m * n + q) (k + l)) : ∃ r, double.fma a b c = some r ∧ Is r (rn (m * n + q)) (k + l) := by
  obtain ⟨x, i, e1, hi, e2⟩ := read_fin ha.2.1
  obtain ⟨y, j, e3, hj, e4⟩ := read_fin hb.2.1
  obtain ⟨z, t, e5, ht, e6⟩ := read_fin hc.2.1
  have hk := hc.2.2.1
  unfold Ieee.Format.fma
  rw [e1, e3, e5]
  simp only [Ieee.Datum.product, Ieee.Datum.sum, Option.bind_some, Option.map_some, Ieee.Format.write, nearest_eq]
  refine ⟨_, rfl, ?_⟩
  -- all in units of 2^-2148
  have hab : sgd (neg a ^^ neg b) (x * y * 2 ^ (i + j + 2148).toNat) = m * n * (2 ^ (k + l + 2148).toNat : Nat) := by
    have := sgd_sgd (neg a) (neg b) (U (a % p63)) (U (b % p63))
    have va : V a = sgd (neg a) (U (a % p63)) := rfl
    have vb : V b = sgd (neg b) (U (b % p63)) := rfl
    rw [← va, ← vb, ha.2.2.2, hb.2.2.2, ← e2, ← e4] at this
    have h1 := ha.2.2.1; have h2 := hb.2.2.1
    rw [show x * 2 ^ (i + 1074).toNat * (y * 2 ^ (j + 1074).toNat) = x * y * 2 ^ (i + j + 2148).toNat by
      rw [show (i + j + 2148).toNat = (i + 1074).toNat + (j + 1074).toNat by omega, Nat.pow_add]
      simp only [Nat.mul_assoc, Nat.mul_left_comm]] at this
    rw [← this, show (k + l + 2148).toNat = (k + 1074).toNat + (l + 1074).toNat by omega, Nat.pow_add, Int.natCast_mul]
    simp only [Int.mul_assoc, Int.mul_left_comm]
  have hcc : sgd (neg c) (z * 2 ^ (t + 2148).toNat) = q * (2 ^ (k + l + 2148).toNat : Nat) := by
    have vc : V c = sgd (neg c) (U (c % p63)) := rfl
    rw [hc.2.2.2, ← e6] at vc
    rw [show (t + 2148).toNat = (t + 1074).toNat + 1074 by omega, show (k + l + 2148).toNat = (k + l + 1074).toNat + 1074 by omega, Nat.pow_add, Nat.pow_add, ← Nat.mul_assoc, sgd_mul, ← vc, Int.natCast_mul, Int.mul_assoc]
  generalize hb1 : min (i + j) t = base at *
  have s1 : sgd (neg a ^^ neg b) (x * y * 2 ^ (i + j + 2148).toNat) = Ieee.signed (neg a ^^ neg b) (x * y) (i + j - base).toNat * (2 ^ (base + 2148).toNat : Nat) := by
    rw [signed_eq, ← sgd_mul, Nat.mul_assoc (x * y), ← Nat.pow_add, show (i + j - base).toNat + (base + 2148).toNat = (i + j + 2148).toNat by omega]
  have s2 : sgd (neg c) (z * 2 ^ (t + 2148).toNat) = Ieee.signed (neg c) z (t - base).toNat * (2 ^ (base + 2148).toNat : Nat) := by
    rw [signed_eq, ← sgd_mul, Nat.mul_assoc z, ← Nat.pow_add, show (t - base).toNat + (base + 2148).toNat = (t + 2148).toNat by omega]
  have hT : (Ieee.signed (neg a ^^ neg b) (x * y) (i + j - base).toNat + Ieee.signed (neg c) z (t - base).toNat) * (2 ^ (base + 2148).toNat : Nat) = (m * n + q) * (2 ^ (k + l + 2148).toNat : Nat) := by
    rw [Int.add_mul, ← s1, ← s2, hab, hcc, Int.add_mul]
  generalize Ieee.signed (neg a ^^ neg b) (x * y) (i + j - base).toNat + Ieee.signed (neg c) z (t - base).toNat = T at *
  have hr : rungOf T.natAbs base = rungOf (m * n + q).natAbs (k + l) := by
    have r1 := rungOf_scale T.natAbs base (base + 2148).toNat
    have r2 := rungOf_scale (m * n + q).natAbs (k + l) (k + l + 2148).toNat
    rw [← natAbs_pow, hT, natAbs_pow, show base - ((base + 2148).toNat : Int) = -2148 by omega] at r1
    rw [show k + l - ((k + l + 2148).toNat : Int) = -2148 by omega] at r2
    rw [← r1, r2]
  rw [hr]
  refine is_word hk hf fun h0 => ?_
  have z0 : T ≠ 0 := fun e => h0 ((mul_pow_zero _ _).1 (by rw [← hT, e, Int.zero_mul]))
  have z1 : T < 0 ↔ m * n + q < 0 := by rw [← mul_pow_neg T (base + 2148).toNat, hT, mul_pow_neg]
  rw [if_neg z0]
  simp only [z1]

theorem is_ofInt {n : Int} (h1 : -9007199254740992 ≤ n) (h2 : n ≤ 9007199254740992) : Is (floatOfInt .f64 n) n 0 := by
  have := is_word (s := decide (n < 0)) (m := n) (k := 0) (by decide) (rungOf_small (by omega)) (fun _ => rfl)
  rw [rn_small h1 h2] at this
  rw [ofInt_eq]; exact this
theorem is_ofInt' {n : Int} (h1 : -18446744073709551616 < n) (h2 : n < 18446744073709551616) : Is (floatOfInt .f64 n) (rn n) 0 := by
  have := is_word (s := decide (n < 0)) (m := n) (k := 0) (by decide) (rungOf_small (by omega)) (fun _ => rfl)
  rw [ofInt_eq]; exact this

/-- What a float is needs no more than 53 digits. -/
theorem Is.self {a : Nat} {m k : Int} (h : Is a m k) : rn m = m := by
  obtain ⟨u, _⟩ := U_of_V h
  have hk := h.2.2.1
  have hr : rungOf m.natAbs k = a % p63 := by
    rw [← rung_place _ hk, ← u, rungOf_U (Nat.le_of_lt h.2.1)]
  have := U_round hk (by rw [hr]; exact h.2.1 : rungOf m.natAbs k < infR)
  rw [hr, u] at this
  have e := Nat.mul_right_cancel (Nat.two_pow_pos _) this
  unfold rn; rw [← e]; split <;> omega

theorem is_scale {a : Nat} {m k : Int} (h : Is a m k) (e : Int) (hk : -1074 ≤ k + e) (hf : Fits m (k + e)) : Is (ldexpB a e) m (k + e) := by
  obtain ⟨u, s⟩ := U_of_V h
  have h1 := h.2.2.1
  have hm := h.self
  unfold ldexpB
  by_cases h0 : a % p63 = 0
  · rw [if_pos (Or.inl h0)]
    refine ⟨h.1, h.2.1, hk, ?_⟩
    have v0 : V a = 0 := by unfold V sgd; rw [h0]; split <;> simp [U_zero]
    have m0 : m = 0 := (mul_pow_zero _ _).1 (h.2.2.2 ▸ v0)
    rw [v0, m0, Int.zero_mul]
  · have hfin := h.2.1
    rw [if_neg (by omega), u]
    have r := rungOf_scale m.natAbs (k + e) (k + 1074).toNat
    rw [show k + e - ((k + 1074).toNat : Int) = e - 1074 by omega] at r
    rw [r]
    have := is_word (s := neg a) (m := m) hk hf s
    rwa [hm] at this

theorem is_flip {a : Nat} {m k : Int} (h : Is a m k) : Is (flip a) (-m) k := by
  refine ⟨flip_lt h.1, by rw [flip_mod h.1]; exact h.2.1, h.2.2.1, ?_⟩
  rw [flip_eq h.1, word_V _ (Nat.le_of_lt h.2.1), Int.neg_mul, ← h.2.2.2]
  unfold V sgd; cases neg a <;> simp

theorem is_eq {a b : Nat} {m n k : Int} (ha : Is a m k) (hb : Is b n k) : eqB a b = decide (m = n) := by
  unfold eqB
  rw [ha.num, hb.num]
  have h : key a = key b ↔ m = n := by
    rw [← V_eq, ha.2.2.2, hb.2.2.2]
    have hp : 0 < 2 ^ (k + 1074).toNat := Nat.two_pow_pos _
    exact ⟨fun h => Int.eq_of_mul_eq_mul_right (by omega) h, fun h => by rw [h]⟩
  simp [h]
theorem is_le {a b : Nat} {m n k : Int} (ha : Is a m k) (hb : Is b n k) : leB a b = decide (m ≤ n) := by
  unfold leB
  rw [ha.num, hb.num]
  have h : key a ≤ key b ↔ m ≤ n := by
    rw [← V_le, ha.2.2.2, hb.2.2.2]
    have hp : 0 < 2 ^ (k + 1074).toNat := Nat.two_pow_pos _
    exact ⟨fun h => Int.le_of_mul_le_mul_right h (by omega), fun h => Int.mul_le_mul_of_nonneg_right h (by omega)⟩
  simp [h]
theorem is_abs {a : Nat} {m k : Int} (h : Is a m k) : Is (a % 9223372036854775808) (m.natAbs : Int) k := by
  have hlt : a % p63 < p63 := Nat.mod_lt _ (by decide)
  have e : a % 9223372036854775808 = double.word false (a % p63) := by rw [word_eq]; rfl
  rw [e]
  have hle := Nat.le_of_lt h.2.1
  refine ⟨word_lt _ hle, by rw [word_mod _ hle]; exact h.2.1, h.2.2.1, ?_⟩
  rw [word_V _ hle, (U_of_V h).1]; simp [sgd, Int.natCast_mul]

/-- 'int(x)' of a whole number. -/
theorem is_toInt {a : Nat} {m : Int} (h : Is a m 0) (h1 : -9223372036854775808 ≤ m) (h2 : m ≤ 9223372036854775807) : floatToIntVal .f64 a .i64 = some m := by
  obtain ⟨x, i, e1, hi, e2⟩ := read_fin h.2.1
  obtain ⟨u, s⟩ := U_of_V h
  rw [u, show ((0 : Int) + 1074).toNat = low74 from rfl] at e2
  unfold floatToIntVal
  have hd : FloatKind.f64.decode a = .number (neg a) x i := e1
  rw [hd]
  have hcut : Ieee.Toward.zero.cut (neg a) (x <<< i.toNat) (-i).toNat = m.natAbs := by
    show (x <<< i.toNat) / (1 <<< min (-i).toNat ((x <<< i.toNat).log2 + 2)) + 0 = _
    rw [Nat.add_zero, Nat.shiftLeft_eq, Nat.shiftLeft_eq, Nat.one_mul]
    by_cases g : 0 ≤ i
    · rw [show (-i).toNat = 0 by omega, Nat.zero_min, Nat.pow_zero, Nat.div_one]
      rw [show (i + 1074).toNat = i.toNat + low74 by unfold low74; omega, Nat.pow_add, ← Nat.mul_assoc] at e2
      exact Nat.mul_right_cancel (Nat.two_pow_pos _) e2
    · rw [show i.toNat = 0 by omega, Nat.pow_zero, Nat.mul_one]
      have e3 : x = m.natAbs * 2 ^ (-i).toNat := by
        have : low74 = (i + 1074).toNat + (-i).toNat := by unfold low74; omega
        rw [this, Nat.add_comm, Nat.pow_add, ← Nat.mul_assoc] at e2
        exact Nat.mul_right_cancel (Nat.two_pow_pos _) e2
      by_cases m0 : m.natAbs = 0
      · rw [m0, Nat.zero_mul] at e3; rw [e3, m0]; simp
      · have hl : x.log2 = m.natAbs.log2 + (-i).toNat := by rw [e3, log2_scale m0]
        rw [Nat.min_eq_left (by omega), e3, Nat.mul_div_cancel _ (Nat.two_pow_pos _)]
  have ht : (Ieee.Datum.number (neg a) x i).toInt .zero = some m := by
    show some (Ieee.signed (neg a) (Ieee.Toward.zero.cut (neg a) (x <<< i.toNat) (-i).toNat) 0) = some m
    rw [hcut, signed_eq]
    unfold sgd
    by_cases m0 : m = 0
    · subst m0; cases neg a <;> simp
    · rw [s m0]
      by_cases hn : m < 0
      · simp [hn]; omega
      · simp [hn]; omega
  rw [ht]
  have a1 : IntKind.i64.min = -9223372036854775808 := by decide
  have a2 : IntKind.i64.max = 9223372036854775807 := by decide
  simp only []
  rw [if_pos (by omega)]

/-- 'int(x)' of what is not too great. -/
theorem toInt_in {x : Nat} (h1 : leB 14010698440749613056 x = true) (h2 : leB x 4787326403894837248 = true) : isN x = false ∧ ∃ m, (FloatKind.f64.decode x).toInt .zero = some m ∧ -1099511627776 ≤ m ∧ m ≤ 1099511627776 := by
  unfold leB at h1 h2
  simp only [Bool.and_eq_true, Bool.not_eq_true', decide_eq_true_eq] at h1 h2
  have hn := h1.1.2
  have k1 := h1.2
  have k2 := h2.2
  rw [show key 14010698440749613056 = -4787326403894837248 by decide +kernel] at k1
  rw [show key 4787326403894837248 = 4787326403894837248 by decide +kernel] at k2
  have hx : x % p63 ≤ 4787326403894837248 := by
    unfold key at k1 k2
    split at k1
    · rename_i g
      rw [if_pos g] at k2
      omega
    · rename_i g
      rw [if_neg g] at k2
      omega
  have hf : x % p63 < infR := Nat.lt_of_le_of_lt hx (by decide)
  obtain ⟨m, p, e1, hp, e2⟩ := read_fin hf
  have hU : U (x % p63) ≤ 2 ^ 40 * 2 ^ low74 := by
    have e : U 4787326403894837248 = 2 ^ 40 * 2 ^ low74 := by decide +kernel
    rw [← e]
    exact Nat.le_of_not_lt fun h => absurd (U_lt.1 h) (Nat.not_lt.2 hx)
  rw [← e2] at hU
  have hd : FloatKind.f64.decode x = .number (neg x) m p := e1
  refine ⟨hn, ?_⟩
  rw [hd]
  have hcut : Ieee.Toward.zero.cut (neg x) (m <<< p.toNat) (-p).toNat ≤ 2 ^ 40 := by
    show (m <<< p.toNat) / (1 <<< min (-p).toNat ((m <<< p.toNat).log2 + 2)) + 0 ≤ _
    rw [Nat.add_zero, Nat.shiftLeft_eq, Nat.shiftLeft_eq, Nat.one_mul]
    by_cases g : 0 ≤ p
    · rw [show (-p).toNat = 0 by clear hU; omega, Nat.zero_min, Nat.pow_zero, Nat.div_one]
      rw [show (p + 1074).toNat = p.toNat + low74 by clear hU; unfold low74; omega, Nat.pow_add, ← Nat.mul_assoc] at hU
      exact Nat.le_of_mul_le_mul_right hU (Nat.two_pow_pos _)
    · rw [show p.toNat = 0 by clear hU; omega, Nat.pow_zero, Nat.mul_one]
      by_cases hm : (-p).toNat ≤ m.log2 + 2
      · rw [Nat.min_eq_left hm]
        have e3 : 2 ^ 40 * 2 ^ low74 = (2 ^ (-p).toNat * 2 ^ 40) * 2 ^ (p + 1074).toNat := by
          have ep : 40 + low74 = (-p).toNat + 40 + (p + 1074).toNat := by clear hU; unfold low74; omega
          rw [← Nat.pow_add, ← Nat.pow_add, ← Nat.pow_add, ep]
        rw [e3] at hU
        exact Nat.div_le_of_le_mul (Nat.le_of_mul_le_mul_right hU (Nat.two_pow_pos _))
      · rw [Nat.min_eq_right (by clear hU; omega)]
        have : m < 2 ^ (m.log2 + 2) := Nat.lt_of_lt_of_le Nat.lt_log2_self (Nat.pow_le_pow_right (by omega) (by omega))
        rw [Nat.div_eq_of_lt this]
        exact Nat.zero_le _
  refine ⟨Ieee.signed (neg x) (Ieee.Toward.zero.cut (neg x) (m <<< p.toNat) (-p).toNat) 0, rfl, ?_⟩
  rw [signed_eq]
  clear hU e1 e2 hd
  generalize Ieee.Toward.zero.cut (neg x) (m <<< p.toNat) (-p).toNat = c at hcut
  unfold sgd
  split <;> omega

end Go.Proofs.Ytnlbafjmbamoeaa

namespace Go.Proofs.Ytnlbafjmbamoeaa
open Ieee (double)

theorem log2_mul_le {m n : Nat} (hm : m ≠ 0) (hn : n ≠ 0) : (m * n).log2 ≤ m.log2 + n.log2 + 1 := by
  have a := lt_pow_log m
  have b := lt_pow_log n
  have h0 : m * n ≠ 0 := Nat.mul_ne_zero hm hn
  have c := pow_log_le h0
  have : m * n < 2 ^ (m.log2 + 1) * 2 ^ (n.log2 + 1) := Nat.mul_lt_mul_of_lt_of_le a (Nat.le_of_lt b) (Nat.two_pow_pos _)
  rw [← Nat.pow_add] at this
  have : 2 ^ (m * n).log2 < 2 ^ (m.log2 + 1 + (n.log2 + 1)) := by omega
  have := (Nat.pow_lt_pow_iff_right (a := 2) (by decide)).1 this
  omega

/-- A quotient that comes out even. -/
theorem is_quo {a b : Nat} {m n k l : Int} (ha : Is a (m * n) k) (hb : Is b n l) (hn : n ≠ 0) (h1 : -9007199254740992 ≤ m) (h2 : m ≤ 9007199254740992) (hk : -1074 ≤ k - l) (hf : Fits m (k - l)) :
    ∃ r, double.div a b = some r ∧ Is r m (k - l) := by
  obtain ⟨x, i, e1, hi, e2⟩ := read_fin ha.2.1
  obtain ⟨y, j, e3, hj, e4⟩ := read_fin hb.2.1
  obtain ⟨u1, s1⟩ := U_of_V ha
  obtain ⟨u2, s2⟩ := U_of_V hb
  have hk1 := ha.2.2.1
  have hl1 := hb.2.2.1
  rw [u1] at e2
  rw [u2] at e4
  have hn' : n.natAbs ≠ 0 := by omega
  have hy : y ≠ 0 := by
    intro h; rw [h, Nat.zero_mul] at e4
    have := Nat.two_pow_pos (l + 1074).toNat
    rcases Nat.mul_eq_zero.1 e4.symm with h | h <;> omega
  have hsign : m ≠ 0 → (neg a ^^ neg b) = decide (m < 0) := fun h0 => by
    have hmn : m * n ≠ 0 := by simp [h0, hn]
    rw [s1 hmn, s2 hn]
    by_cases g1 : m < 0 <;> by_cases g2 : n < 0
    · have : 0 < m * n := Int.mul_pos_of_neg_of_neg g1 g2
      simp [g1, g2, show ¬ m * n < 0 by omega]
    · have : m * n < 0 := Int.mul_neg_of_neg_of_pos g1 (by omega)
      simp [g1, g2, this]
    · have : m * n < 0 := Int.mul_neg_of_pos_of_neg (by omega) g2
      simp [g1, g2, this]
    · have : 0 < m * n := Int.mul_pos (by omega) (by omega)
      simp [g1, g2, show ¬ m * n < 0 by omega]
  have hrn := rn_small h1 h2
  unfold Ieee.Format.div
  rw [e1, e3]
  have hdig : double.fractionBits + 2 = 54 := by decide
  simp only [Ieee.Datum.quotient, hdig, if_neg hy, Nat.shiftLeft_eq, Option.map_some, Ieee.Format.write, nearest_eq]
  refine ⟨_, rfl, ?_⟩
  generalize hmore : 54 + y.log2 - x.log2 = more
  -- what is left to show: the digits are those of m
  have key : ∃ E : Nat, x * 2 ^ more = m.natAbs * 2 ^ E * y ∧ (m ≠ 0 → k - l - ((E + 1 : Nat) : Int) = i - j - more - 1) := by
    by_cases h0 : m = 0
    · subst h0
      refine ⟨0, ?_, fun h => absurd rfl h⟩
      have : x = 0 := by
        rw [Int.zero_mul] at e2
        simp only [Int.natAbs_zero, Nat.zero_mul] at e2
        rcases Nat.mul_eq_zero.1 e2 with h | h
        · exact h
        · have := Nat.two_pow_pos (i + 1074).toNat; omega
      subst this; simp
    · have hm' : m.natAbs ≠ 0 := by omega
      have heq : x * 2 ^ ((i + 1074).toNat + (l + 1074).toNat) = m.natAbs * y * 2 ^ ((j + 1074).toNat + (k + 1074).toNat) := by
        have := congrArg (· * 2 ^ (l + 1074).toNat) e2
        simp only [Int.natAbs_mul] at this
        rw [Nat.pow_add, ← Nat.mul_assoc, this, Nat.pow_add]
        rw [show m.natAbs * n.natAbs * 2 ^ (k + 1074).toNat * 2 ^ (l + 1074).toNat = m.natAbs * (n.natAbs * 2 ^ (l + 1074).toNat) * 2 ^ (k + 1074).toNat by simp only [Nat.mul_assoc, Nat.mul_left_comm, Nat.mul_comm], ← e4]
        simp only [Nat.mul_assoc]
      have hx : x ≠ 0 := by
        intro h; rw [h, Nat.zero_mul] at heq
        have := Nat.two_pow_pos ((j + 1074).toNat + (k + 1074).toNat)
        rcases Nat.mul_eq_zero.1 heq.symm with h | h
        · rcases Nat.mul_eq_zero.1 h with h | h <;> omega
        · omega
      have hlog := congrArg Nat.log2 heq
      rw [log2_scale hx, log2_scale (Nat.mul_ne_zero hm' hy)] at hlog
      have hm1 := log2_mul_le hm' hy
      have hm2 : m.natAbs.log2 ≤ 53 := by
        have a := pow_log_le hm'
        have : 2 ^ m.natAbs.log2 < 2 ^ 54 := by omega
        have := (Nat.pow_lt_pow_iff_right (a := 2) (by decide)).1 this
        omega
      obtain ⟨E, hE⟩ : ∃ E, E + ((i + 1074).toNat + (l + 1074).toNat) = (j + 1074).toNat + (k + 1074).toNat + more := ⟨(j + 1074).toNat + (k + 1074).toNat + more - ((i + 1074).toNat + (l + 1074).toNat), by omega⟩
      refine ⟨E, ?_, fun _ => by omega⟩
      apply Nat.eq_of_mul_eq_mul_right (Nat.two_pow_pos ((i + 1074).toNat + (l + 1074).toNat))
      rw [show x * 2 ^ more * 2 ^ ((i + 1074).toNat + (l + 1074).toNat) = x * 2 ^ ((i + 1074).toNat + (l + 1074).toNat) * 2 ^ more by ac_rfl, heq,
        Nat.mul_assoc, ← Nat.pow_add, ← hE, Nat.pow_add]
      ac_rfl
  obtain ⟨E, k1, k2⟩ := key
  have hypos : 0 < y := by omega
  rw [k1, Nat.mul_div_cancel _ hypos, Nat.mul_mod_left]
  rw [show 2 * (m.natAbs * 2 ^ E) + (0 != 0).toNat = m.natAbs * 2 ^ (E + 1) by rw [Nat.pow_succ]; simp [Nat.mul_left_comm, Nat.mul_comm]]
  have hr : rungOf (m.natAbs * 2 ^ (E + 1)) (i - j - more - 1) = rungOf m.natAbs (k - l) := by
    by_cases h0 : m = 0
    · subst h0; simp [rungOf_zero]
    · rw [← k2 h0, rungOf_scale]
  rw [hr]
  have := is_word (s := neg a ^^ neg b) hk hf hsign
  rw [hrn] at this
  exact this
end Go.Proofs.Ytnlbafjmbamoeaa
