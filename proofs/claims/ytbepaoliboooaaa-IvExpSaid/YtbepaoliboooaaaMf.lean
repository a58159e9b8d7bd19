/-
  Operations on what is no number; a product and a sum rounded once; a sign turned; whole numbers as floats. No condition but those in the statements.
-/
import Derived.Test.YtbepaoliboooaaaMe
import Derived.Laws.Externs
namespace Go.Proofs.Ytbepaoliboooaaa
open Ieee (double)

theorem isN_true {x : Nat} (h : isN x = true) : infR < x % p63 := by unfold isN at h; simpa using h
theorem read_isN {x : Nat} (h : isN x = true) : ∃ s t, double.read x = .nan s t := ⟨_, _, read_nan (isN_true h)⟩

theorem fb_nan_left (op : BinOp) {x : Nat} (y : Nat) (h : isN x = true) : floatBits op .f64 x y = none := by
  obtain ⟨s, t, e⟩ := read_isN h
  unfold floatBits
  cases op <;> simp only [FloatKind.format, Ieee.Format.add, Ieee.Format.sub, Ieee.Format.mul, Ieee.Format.div, e] <;> cases double.read y <;> rfl
theorem fb_nan_right (op : BinOp) (x : Nat) {y : Nat} (h : isN y = true) : floatBits op .f64 x y = none := by
  obtain ⟨s, t, e⟩ := read_isN h
  unfold floatBits
  cases op <;> simp only [FloatKind.format, Ieee.Format.add, Ieee.Format.sub, Ieee.Format.mul, Ieee.Format.div, e] <;> cases double.read x <;> rfl

theorem cop_canon_left (op : BinOp) (x y : Nat) : cop op (canon x) y = cop op x y := by
  by_cases h : isN x = true
  · unfold cop; rw [fb_nan_left op y h, fb_nan_left op y ((isN_canon x).trans h)]
  · rw [canon_num (by simpa using h)]
theorem cop_canon_right (op : BinOp) (x y : Nat) : cop op x (canon y) = cop op x y := by
  by_cases h : isN y = true
  · unfold cop; rw [fb_nan_right op x h, fb_nan_right op x ((isN_canon y).trans h)]
  · rw [canon_num (by simpa using h)]
theorem canon_cop (op : BinOp) (x y : Nat) : canon (cop op x y) = cop op x y := by
  unfold cop
  cases floatBits op .f64 x y with
  | some r => exact canon_canon r
  | none => decide
/-- The canonical form of an operation on what has canonical forms. -/
theorem canon_fval' {op : BinOp} {w : World} {x y a b : Nat} (hx : canon x = canon a) (hy : canon y = canon b) : canon (fval op w x y) = cop op a b := by
  rw [canon_fval, ← cop_canon_left, ← cop_canon_right, hx, hy, cop_canon_left, cop_canon_right]
theorem cc {x a b : Nat} {op : BinOp} (h : canon x = cop op a b) : canon x = canon (cop op a b) := h.trans (canon_cop _ _ _).symm
theorem cop_some {op : BinOp} {x y r : Nat} (h : floatBits op .f64 x y = some r) : cop op x y = canon r := by unfold cop; rw [h]

theorem cop_lt (op : BinOp) (x y : Nat) : cop op x y < 18446744073709551616 := by
  unfold cop
  cases h : floatBits op .f64 x y with
  | some r =>
    have := floatBits_wf h
    exact canon_lt (by simpa [Lit.wf] using this)
  | none => decide
/-- A number less itself is 0 just where it is finite. -/
theorem sub_self_zero {x : Nat} : eqB (cop .sub x x) 0 = decide (x % p63 < infR) := by
  by_cases h : x % p63 < infR
  · have e := sub_fin h h
    rw [Int.sub_self] at e
    rw [cop_some (op := .sub) (r := _) e, decide_eq_true h]
    cases neg x <;> decide
  · rw [decide_eq_false h]
    have e : floatBits .sub .f64 x x = none := by
      by_cases g : x % p63 = infR
      · unfold floatBits
        simp only [FloatKind.format, Ieee.Format.sub]
        rw [read_inf g]
        cases neg x <;> rfl
      · exact fb_nan_left _ _ (by unfold isN; rw [decide_eq_true_eq]; omega)
    unfold cop; rw [e]; decide

/-- With the sign turned. -/
def flip (x : Nat) : Nat := Op.negFloat .f64 x
theorem flip_eq {x : Nat} (hx : x < 18446744073709551616) : flip x = double.word (!neg x) (x % p63) := by
  have e : flip x = x ^^^ 2 ^ 63 := rfl
  rw [e, word_eq]
  have ht : neg x = x.testBit 63 := by
    unfold neg p63; rw [Nat.testBit_eq_decide_div_mod_eq]; rfl
  apply Nat.eq_of_testBit_eq
  intro i
  rw [Nat.testBit_xor, Nat.testBit_two_pow]
  have hm : x % p63 = x % 2 ^ 63 := rfl
  have hml : x % 2 ^ 63 < 2 ^ 63 := Nat.mod_lt _ (by decide)
  have hw : p63 + x % p63 = 2 ^ 63 ||| x % 2 ^ 63 := by
    have := Nat.two_pow_add_eq_or_of_lt (i := 63) hml 1
    rw [Nat.mul_one] at this; rw [hm]; exact this
  by_cases hi : 63 = i
  · subst hi
    rw [ht]
    cases hb : x.testBit 63
    · simp only [Bool.not_false, if_true, hw, Nat.testBit_or, Nat.testBit_two_pow]; simp
    · simp only [Bool.not_true, Bool.false_eq_true, if_false, hm, Nat.testBit_mod_two_pow]; simp
  · rw [ht]
    by_cases hl : i < 63
    · cases hb : x.testBit 63
      · simp only [Bool.not_false, if_true, hw, Nat.testBit_or, Nat.testBit_two_pow, Nat.testBit_mod_two_pow]; simp [hi, hl]
      · simp only [Bool.not_true, Bool.false_eq_true, if_false, hm, Nat.testBit_mod_two_pow]; simp [hi, hl]
    · have hx0 : x.testBit i = false := Nat.testBit_lt_two_pow (Nat.lt_of_lt_of_le hx (show 18446744073709551616 ≤ 2 ^ i from Nat.le_trans (show 18446744073709551616 ≤ 2 ^ 64 by decide) (Nat.pow_le_pow_right (by decide) (by omega))))
      rw [hx0]
      cases hb : x.testBit 63
      · simp only [Bool.not_false, if_true, hw, Nat.testBit_or, Nat.testBit_two_pow, Nat.testBit_mod_two_pow]; simp [hi, hl]
      · simp only [Bool.not_true, Bool.false_eq_true, if_false, hm, Nat.testBit_mod_two_pow]; simp [hi, hl]
theorem flip_lt {x : Nat} (hx : x < 18446744073709551616) : flip x < 18446744073709551616 := by
  rw [flip_eq hx, word_eq]; have : x % p63 < p63 := Nat.mod_lt _ (by decide)
  unfold p63 at *; split <;> omega
theorem flip_mod {x : Nat} (hx : x < 18446744073709551616) : flip x % p63 = x % p63 := by
  rw [flip_eq hx, word_eq]; have : x % p63 < p63 := Nat.mod_lt _ (by decide)
  generalize x % p63 = r at *
  unfold p63 at *; split <;> omega
theorem flip_isN {x : Nat} (hx : x < 18446744073709551616) : isN (flip x) = isN x := by unfold isN; rw [flip_mod hx]

/-- A product and a sum, rounded once. -/
def fmav (w : World) (x y z : Nat) : Nat := match double.fma x y z with
  | some r => r
  | none => (Question.nanBits .f64 (if Extern.MathFMA.isNaN x then x else if Extern.MathFMA.isNaN y then y else z) (if Extern.MathFMA.isNaN x then y else if Extern.MathFMA.isNaN y then z else z)).cut (w.tape w.drawn (.nanBits .f64 (if Extern.MathFMA.isNaN x then x else if Extern.MathFMA.isNaN y then y else z) (if Extern.MathFMA.isNaN x then y else if Extern.MathFMA.isNaN y then z else z)))
def fman (x y z : Nat) : Nat := if (double.fma x y z).isSome then 0 else 1
def cfma (x y z : Nat) : Nat := match double.fma x y z with | some r => canon r | none => nanB
theorem run_fma (P : Program) (w : World) (x y z : Nat) : (Extern.MathFMA.fma #[.float .f64 x, .float .f64 y, .float .f64 z]).run P w = .ok (.float .f64 (fmav w x y z)) (w.drewN (fman x y z)) := by
  have e : Extern.MathFMA.fma #[.float .f64 x, .float .f64 y, .float .f64 z] = (match double.fma x y z with
    | some r => pure (.float .f64 r)
    | none => do
      let (a, b) := if Extern.MathFMA.isNaN x then (x, y) else if Extern.MathFMA.isNaN y then (y, z) else (z, z)
      pure (.float .f64 (← choose (.nanBits .f64 a b)))) := rfl
  rw [e]
  cases h : double.fma x y z with
  | some r =>
    have e1 : fmav w x y z = r := by unfold fmav; rw [h]
    have e2 : fman x y z = 0 := by unfold fman; rw [h]; rfl
    rw [e1, e2]
    rfl
  | none =>
    have e2 : fman x y z = 1 := by unfold fman; rw [h]; rfl
    rw [e2]
    unfold fmav
    simp only [h]
    by_cases g1 : Extern.MathFMA.isNaN x = true
    · simp [g1, Question.forced]; rfl
    · by_cases g2 : Extern.MathFMA.isNaN y = true
      · simp [g1, g2, Question.forced]; rfl
      · simp [g1, g2, Question.forced]; rfl
theorem canon_fmav (w : World) (x y z : Nat) : canon (fmav w x y z) = cfma x y z := by
  unfold fmav cfma
  cases double.fma x y z with
  | some r => rfl
  | none => simp only []; unfold canon; rw [(cut_isN _ _ _).1]; rfl
theorem fmav_lt (w : World) (x y z : Nat) : fmav w x y z < 18446744073709551616 := by
  unfold fmav
  cases h : double.fma x y z with
  | some r => exact Ieee.Format.fma_lt double h
  | none => exact (cut_isN _ _ _).2
theorem fma_nan (x y : Nat) {z : Nat} (h : isN z = true) : double.fma x y z = none := by
  obtain ⟨s, t, e⟩ := read_isN h
  unfold Ieee.Format.fma
  rw [e]
  cases (double.read x).product (double.read y) with
  | none => rfl
  | some d => cases d <;> rfl
theorem fma_nan_left {x : Nat} (y z : Nat) (h : isN x = true) : double.fma x y z = none := by
  obtain ⟨s, t, e⟩ := read_isN h
  unfold Ieee.Format.fma
  rw [e]
  cases double.read y <;> rfl
theorem fma_nan_mid (x : Nat) {y : Nat} (z : Nat) (h : isN y = true) : double.fma x y z = none := by
  obtain ⟨s, t, e⟩ := read_isN h
  unfold Ieee.Format.fma
  rw [e]
  cases double.read x <;> rfl
theorem cfma_canon (x y z : Nat) : cfma x y (canon z) = cfma x y z := by
  by_cases h : isN z = true
  · unfold cfma; rw [fma_nan x y h, fma_nan x y ((isN_canon z).trans h)]
  · rw [canon_num (by simpa using h)]
theorem cfma_flip {z c : Nat} (x y : Nat) (hz : z < 18446744073709551616) (hc : c < 18446744073709551616) (h : canon z = canon c) : cfma x y (flip z) = cfma x y (flip c) := by
  by_cases hn : isN z = true
  · have hn' : isN c = true := by rw [← isN_canon, ← h, isN_canon]; exact hn
    unfold cfma; rw [fma_nan x y ((flip_isN hz).trans hn), fma_nan x y ((flip_isN hc).trans hn')]
  · have hn1 : isN z = false := by simpa using hn
    have hn' : isN c = false := by rw [← isN_canon, ← h, isN_canon]; exact hn1
    rw [canon_num hn1, canon_num hn'] at h; rw [h]

/-- Whole numbers as floats. -/
theorem ofInt_eq (n : Int) : floatOfInt .f64 n = double.word (decide (n < 0)) (rungOf n.natAbs 0) := nearest_eq _ _ _
theorem ofInt_lt (n : Int) : floatOfInt .f64 n < 18446744073709551616 := by rw [ofInt_eq]; exact word_lt _ (rungOf_le_inf _ _)
theorem ofInt_isN (n : Int) : isN (floatOfInt .f64 n) = false := by rw [ofInt_eq]; exact word_isN _ (rungOf_le_inf _ _)

theorem rungOf_small {m : Nat} (h : m < 2 ^ 64) : rungOf m 0 < infR :=
  Nat.lt_of_le_of_lt (rungOf_mono 0 (Nat.le_of_lt h)) (by decide +kernel)
theorem ofInt_fin {n : Int} (h1 : -18446744073709551616 < n) (h2 : n < 18446744073709551616) : floatOfInt .f64 n % p63 < infR := by
  rw [ofInt_eq, word_mod _ (rungOf_le_inf _ _)]; exact rungOf_small (by omega)
/-- One unit, of the least: 2^1074 of them are 1. -/
def low74 : Nat := 1074
def unit : Nat := 2 ^ low74
theorem unit_def : unit = 2 ^ low74 := by unfold unit; rfl
theorem unit_pos : 0 < unit := by unfold unit; exact Nat.two_pow_pos _
/-- A whole number below 2^53 is itself as a float. -/
theorem V_ofInt {n : Int} (h1 : -9007199254740992 ≤ n) (h2 : n ≤ 9007199254740992) : V (floatOfInt .f64 n) = n * unit := by
  rw [ofInt_eq, word_V _ (rungOf_le_inf _ _)]
  have hU : U (rungOf n.natAbs 0) = n.natAbs * unit := by
    by_cases h : n.natAbs < 2 ^ 53
    · have := U_rungOf (m := n.natAbs) (p := 0) h (by decide) (rungOf_small (by omega))
      rw [this, show ((0 : Int) + 1074).toNat = low74 from rfl, ← unit_def]
    · have e : n.natAbs = 1 * 2 ^ 53 := by omega
      have := rungOf_scale 1 53 53
      rw [show (53 : Int) - ((53 : Nat) : Int) = 0 by decide] at this
      rw [e, this]
      have hb : rungOf 1 53 < infR := by decide +kernel
      have := U_rungOf (m := 1) (p := 53) (by decide) (by decide) hb
      rw [this, Nat.one_mul, Nat.one_mul, show ((53 : Int) + 1074).toNat = 53 + low74 from rfl, Nat.pow_add, ← unit_def]
  rw [hU]
  unfold sgd
  by_cases hn : n < 0
  · simp only [hn, decide_true, if_true]
    rw [Int.natCast_mul, ← Int.neg_mul]; congr 1; omega
  · simp only [hn, decide_false, Bool.false_eq_true, if_false]
    rw [Int.natCast_mul]; congr 1; omega

/-- What the sum leaves. -/
def sumRest (a b : Nat) : Nat :=
  cop .add (cop .sub a (cop .sub (cop .add a b) (cop .sub (cop .add a b) a))) (cop .sub b (cop .sub (cop .add a b) a))
def mulRest (a b : Nat) : Nat := cfma a b (flip (cop .mul a b))
def mulRest0 (a b : Nat) : Nat := cfma a b (cop .sub 0 (cop .mul a b))


end Go.Proofs.Ytbepaoliboooaaa
