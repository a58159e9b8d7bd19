/-
  Plain facts of sums, differences and products of 64-bit floats, as signed rungs; one float in the place of all that are no numbers. No condition but those in the statements.
  How two floats stand to each other, as tests; the next float above and below. No condition but those in the statements.
  What scaling by a power of two comes to, as the library does it. No condition but those in the statements.
-/
import Derived.Test.YtnlbafjmbamoeaaGa
import Derived.Laws.FloatArith
import Derived.Laws.NewFold
import Derived.Deep.Draws
namespace Go.Proofs.Ytnlbafjmbamoeaa
open Ieee (double)

theorem word_eq (s : Bool) (r : Nat) : double.word s r = if s then p63 + r else r := by
  have e1 : double.signWeight = p63 := by decide
  unfold Ieee.Format.word; rw [e1]
theorem word_mod (s : Bool) {r : Nat} (h : r ≤ infR) : double.word s r % p63 = r := by
  rw [word_eq]; unfold infR at h; unfold p63; split <;> omega
theorem word_neg (s : Bool) {r : Nat} (h : r ≤ infR) : neg (double.word s r) = s := by
  rw [word_eq]; unfold infR at h; unfold neg p63
  cases s
  · rw [if_neg (by decide), show r / 9223372036854775808 = 0 by omega]; rfl
  · rw [if_pos rfl, show (9223372036854775808 + r) / 9223372036854775808 = 1 by omega]; rfl
theorem word_lt (s : Bool) {r : Nat} (h : r ≤ infR) : double.word s r < 18446744073709551616 := by
  rw [word_eq]; unfold infR at h; unfold p63; split <;> omega
theorem word_key (s : Bool) {r : Nat} (h : r ≤ infR) : key (double.word s r) = sgd s r := by
  rw [key_eq, word_mod s h, word_neg s h]
theorem word_isN (s : Bool) {r : Nat} (h : r ≤ infR) : isN (double.word s r) = false := by
  unfold isN; rw [word_mod s h]; simp; omega
/-- A word is its sign and its rung. -/
theorem word_self {x : Nat} (h : x < 18446744073709551616) : double.word (neg x) (x % p63) = x := by
  rw [word_eq]; unfold neg p63
  by_cases g : x / 9223372036854775808 % 2 = 1
  · rw [if_pos (by simpa using g)]; omega
  · rw [if_neg (by simpa using g)]; omega
theorem word_V (s : Bool) {r : Nat} (h : r ≤ infR) : V (double.word s r) = sgd s (U r) := by
  unfold V; rw [word_mod s h, word_neg s h]

/-- What a number is rounded to, with its sign. -/
def RK (t : Int) (p : Int) : Int := sgd (decide (t < 0)) (rungOf t.natAbs p)

theorem RK_mono {s t : Int} (p : Int) (h : s ≤ t) : RK s p ≤ RK t p := by
  unfold RK sgd
  by_cases hs : s < 0 <;> by_cases ht : t < 0 <;> simp only [hs, ht, decide_true, decide_false, if_true, Bool.false_eq_true, if_false]
  · have := rungOf_mono p (show t.natAbs ≤ s.natAbs by omega); omega
  · omega
  · omega
  · have := rungOf_mono p (show s.natAbs ≤ t.natAbs by omega); omega
theorem RK_neg (t p : Int) : RK (-t) p = - RK t p := by
  unfold RK sgd
  rw [Int.natAbs_neg]
  by_cases h0 : t = 0
  · subst h0; simp [rungOf]
  · by_cases hs : t < 0
    · simp [hs, show ¬ (0 < t) by omega]
    · simp [show (0 < t) by omega, show ¬ t < 0 by omega]
theorem RK_scale (t : Int) (p : Int) (k : Nat) : RK (t * (2 ^ k : Nat)) (p - k) = RK t p := by
  unfold RK
  have hp : 0 < 2 ^ k := Nat.two_pow_pos _
  rw [Int.natAbs_mul, Int.natAbs_natCast, rungOf_scale]
  congr 1
  have : t * (2 ^ k : Nat) < 0 ↔ t < 0 := by
    constructor
    · intro h; rcases Int.lt_or_le t 0 with g | g
      · exact g
      · have := Int.mul_nonneg g (show (0 : Int) ≤ (2 ^ k : Nat) by omega); omega
    · intro h; exact Int.mul_neg_of_neg_of_pos h (by omega)
  simp only [this]
theorem RK_bound (t p : Int) : -(infR : Int) ≤ RK t p ∧ RK t p ≤ infR := by
  have := rungOf_le_inf t.natAbs p
  unfold RK sgd; split <;> omega
/-- A finite float is rounded to itself. -/
theorem RK_V {x : Nat} (h : x % p63 ≤ infR) : RK (V x) (-1074) = key x := by
  rw [key_eq]
  unfold RK V sgd
  cases hn : neg x
  · simp only [Bool.false_eq_true, if_false, Int.natAbs_natCast, rungOf_U h]
    rw [if_neg (by simp)]
  · simp only [if_true, Int.natAbs_neg, Int.natAbs_natCast, rungOf_U h]
    by_cases h0 : x % p63 = 0
    · rw [h0]; simp
    · have : U (x % p63) ≠ 0 := fun e => h0 (U_inj (e.trans U_zero.symm))
      rw [if_pos (by simp; omega)]

theorem V_lt {x y : Nat} : V x < V y ↔ key x < key y := by rw [key_eq, key_eq]; exact sgd_lt
theorem V_eq {x y : Nat} : V x = V y ↔ key x = key y := by rw [key_eq, key_eq]; exact sgd_eq
theorem V_le {x y : Nat} : V x ≤ V y ↔ key x ≤ key y := by have := @V_lt y x; omega

/-- The sum of two finite floats. -/
theorem add_fin {x y : Nat} (hx : x % p63 < infR) (hy : y % p63 < infR) :
    double.add x y = some (double.word (if V x + V y = 0 then neg x && neg y else decide (V x + V y < 0)) (rungOf (V x + V y).natAbs (-1074))) := by
  obtain ⟨m, i, e1, hi, e2⟩ := read_fin hx
  obtain ⟨n, j, e3, hj, e4⟩ := read_fin hy
  unfold Ieee.Format.add
  rw [e1, e3]
  simp only [Ieee.Datum.sum, Option.map_some, Ieee.Format.write, nearest_eq]
  have hs := sum_scale (neg x) (neg y) m n i j hi hj
  rw [e2, e4] at hs
  have hV : V x + V y = (Ieee.signed (neg x) m (i - min i j).toNat + Ieee.signed (neg y) n (j - min i j).toNat) * (2 ^ (min i j + 1074).toNat : Nat) := by
    unfold V; rw [hs.1, hs.2, Int.add_mul]
  generalize Ieee.signed (neg x) m (i - min i j).toNat + Ieee.signed (neg y) n (j - min i j).toNat = T at *
  have hp : 0 < 2 ^ (min i j + 1074).toNat := Nat.two_pow_pos _
  have z1 : V x + V y = 0 ↔ T = 0 := by
    rw [hV]; constructor
    · intro h; rcases Int.mul_eq_zero.1 h with g | g
      · exact g
      · omega
    · intro h; rw [h, Int.zero_mul]
  have z2 : V x + V y < 0 ↔ T < 0 := by
    rw [hV]; constructor
    · intro h; rcases Int.lt_or_le T 0 with g | g
      · exact g
      · have := Int.mul_nonneg g (show (0 : Int) ≤ (2 ^ (min i j + 1074).toNat : Nat) by omega); omega
    · intro h; exact Int.mul_neg_of_neg_of_pos h (by omega)
  have r := rungOf_scale T.natAbs (min i j) (min i j + 1074).toNat
  rw [show min i j - ((min i j + 1074).toNat : Int) = -1074 by omega] at r
  have hn : (V x + V y).natAbs = T.natAbs * 2 ^ (min i j + 1074).toNat := by rw [hV, Int.natAbs_mul, Int.natAbs_natCast]
  rw [hn, r]
  simp only [z1, z2]

theorem opposite_read (y : Nat) (hf : y % p63 < infR) : (double.read y).opposite = double.read (double.word (!neg y) (y % p63)) := by
  have hw := word_mod (!neg y) (Nat.le_of_lt hf)
  have hn : (double.word (!neg y) (y % p63) / p63 % 2 == 1) = !neg y := word_neg (!neg y) (Nat.le_of_lt hf)
  unfold Ieee.Format.read
  have e1 : double.signWeight = p63 := by decide
  have e2 : double.binade = p52 := by decide
  have e3 : double.infRung = infR := by decide
  simp only [e1, e2, e3, hw, hn]
  by_cases h1 : y % p63 < p52
  · rw [if_pos h1, if_pos h1]; rfl
  · rw [if_neg h1, if_neg h1, if_pos hf, if_pos hf]; rfl

/-- The difference of two finite floats. -/
theorem sub_fin {x y : Nat} (hx : x % p63 < infR) (hy : y % p63 < infR) :
    double.sub x y = some (double.word (if V x - V y = 0 then neg x && !neg y else decide (V x - V y < 0)) (rungOf (V x - V y).natAbs (-1074))) := by
  have h := add_fin (x := x) (y := double.word (!neg y) (y % p63)) hx (by rw [word_mod _ (Nat.le_of_lt hy)]; exact hy)
  have e : double.sub x y = double.add x (double.word (!neg y) (y % p63)) := by
    unfold Ieee.Format.sub Ieee.Format.add; rw [opposite_read y hy]
  have v : V (double.word (!neg y) (y % p63)) = - V y := by
    rw [word_V _ (Nat.le_of_lt hy)]; unfold V sgd; cases neg y <;> simp
  rw [e, h, v, word_neg _ (Nat.le_of_lt hy)]
  rfl

theorem sgd_sgd (s t : Bool) (m n : Nat) : sgd s m * sgd t n = sgd (s ^^ t) (m * n) := by
  unfold sgd; cases s <;> cases t <;> simp [Int.neg_mul, Int.mul_neg]

/-- The product of two finite floats. -/
theorem mul_fin {x y : Nat} (hx : x % p63 < infR) (hy : y % p63 < infR) :
    double.mul x y = some (double.word (neg x ^^ neg y) (rungOf (U (x % p63) * U (y % p63)) (-2148))) := by
  obtain ⟨m, i, e1, hi, e2⟩ := read_fin hx
  obtain ⟨n, j, e3, hj, e4⟩ := read_fin hy
  unfold Ieee.Format.mul
  rw [e1, e3]
  simp only [Ieee.Datum.product, Option.map_some, Ieee.Format.write, nearest_eq]
  have r := rungOf_scale (m * n) (i + j) ((i + 1074).toNat + (j + 1074).toNat)
  rw [show i + j - (((i + 1074).toNat + (j + 1074).toNat : Nat) : Int) = -2148 by omega, Nat.pow_add] at r
  rw [← e2, ← e4, ← r, show m * n * (2 ^ (i + 1074).toNat * 2 ^ (j + 1074).toNat) = m * 2 ^ (i + 1074).toNat * (n * 2 ^ (j + 1074).toNat) by
    simp only [Nat.mul_assoc, Nat.mul_left_comm]]

theorem sgd_RK {T : Int} {s : Bool} (p : Int) (h : T ≠ 0 → s = decide (T < 0)) : sgd s (rungOf T.natAbs p) = RK T p := by
  unfold RK
  by_cases h0 : T = 0
  · subst h0; simp [rungOf, sgd]
  · rw [h h0]
theorem rungOf_zero (p : Int) : rungOf 0 p = 0 := by simp [rungOf]

/-- The sum's signed rung: what the sum is rounded to. -/
theorem add_key {x y r : Nat} (hx : x % p63 < infR) (hy : y % p63 < infR) (h : double.add x y = some r) : key r = RK (V x + V y) (-1074) ∧ isN r = false ∧ r < 18446744073709551616 := by
  rw [add_fin hx hy] at h
  cases h
  refine ⟨?_, word_isN _ (rungOf_le_inf _ _), word_lt _ (rungOf_le_inf _ _)⟩
  rw [word_key _ (rungOf_le_inf _ _)]
  exact sgd_RK _ fun h0 => by rw [if_neg h0]
theorem sub_key {x y r : Nat} (hx : x % p63 < infR) (hy : y % p63 < infR) (h : double.sub x y = some r) : key r = RK (V x - V y) (-1074) ∧ isN r = false ∧ r < 18446744073709551616 := by
  rw [sub_fin hx hy] at h
  cases h
  refine ⟨?_, word_isN _ (rungOf_le_inf _ _), word_lt _ (rungOf_le_inf _ _)⟩
  rw [word_key _ (rungOf_le_inf _ _)]
  exact sgd_RK _ fun h0 => by rw [if_neg h0]
theorem V_mul (x y : Nat) : V x * V y = sgd (neg x ^^ neg y) (U (x % p63) * U (y % p63)) := by unfold V; rw [sgd_sgd]
theorem mul_key {x y r : Nat} (hx : x % p63 < infR) (hy : y % p63 < infR) (h : double.mul x y = some r) : key r = RK (V x * V y) (-2148) ∧ isN r = false ∧ r < 18446744073709551616 := by
  rw [mul_fin hx hy] at h
  cases h
  refine ⟨?_, word_isN _ (rungOf_le_inf _ _), word_lt _ (rungOf_le_inf _ _)⟩
  rw [word_key _ (rungOf_le_inf _ _), V_mul]
  have e : (sgd (neg x ^^ neg y) (U (x % p63) * U (y % p63))).natAbs = U (x % p63) * U (y % p63) := by
    unfold sgd; split <;> simp [Int.natAbs_mul]
  rw [← sgd_RK (T := sgd (neg x ^^ neg y) (U (x % p63) * U (y % p63))) (s := neg x ^^ neg y) _ ?_, e]
  intro h0
  unfold sgd at h0 ⊢
  generalize U (x % p63) * U (y % p63) = k at *
  cases neg x ^^ neg y
  · simp
  · simp only [if_true] at h0 ⊢; symm; rw [decide_eq_true_eq]; omega

/-- One in the place of all that are no numbers. -/
def nanB : Nat := 9221120237041090561
def canon (x : Nat) : Nat := if isN x then nanB else x
theorem canon_num {x : Nat} (h : isN x = false) : canon x = x := by unfold canon; rw [h]; rfl
theorem isN_canon (x : Nat) : isN (canon x) = isN x := by
  unfold canon; split
  · rename_i h; rw [h]; decide
  · rfl
theorem canon_eq_num {x c : Nat} (h : canon x = c) (hc : isN c = false) : x = c := by
  have := isN_canon x; rw [h, hc] at this; rw [← h, canon_num this.symm]
theorem canon_canon (x : Nat) : canon (canon x) = canon x := by
  by_cases h : isN x = true
  · have : canon x = nanB := by unfold canon; rw [if_pos h]
    rw [this]; decide
  · have e := canon_num (x := x) (by simpa using h)
    rw [e, e]
theorem canon_lt {x : Nat} (h : x < 18446744073709551616) : canon x < 18446744073709551616 := by
  unfold canon nanB; split <;> omega
theorem order_canon (x y : Nat) : double.order (canon x) (canon y) = double.order x y := by
  rw [order_eq, order_eq, isN_canon, isN_canon]
  by_cases hx : isN x
  · simp [hx]
  · by_cases hy : isN y
    · simp [hy]
    · rw [canon_num (by simpa using hx), canon_num (by simpa using hy)]

/-- What an operation gives, one for all that are no numbers. -/
def cop (op : BinOp) (x y : Nat) : Nat := match floatBits op .f64 x y with | some r => canon r | none => nanB
def fval (op : BinOp) (w : World) (x y : Nat) : Nat := match floatBits op .f64 x y with | some r => r | none => (Question.nanBits .f64 x y).cut (w.tape w.drawn (.nanBits .f64 x y))
def ndraw (op : BinOp) (x y : Nat) : Nat := if (floatBits op .f64 x y).isSome then 0 else 1

theorem cut_isN (x y t : Nat) : isN ((Question.nanBits .f64 x y).cut t) = true ∧ (Question.nanBits .f64 x y).cut t < 18446744073709551616 := by
  have e : (Question.nanBits .f64 x y).cut t = (t % 2) * 9223372036854775808 + 9218868437227405312 + 1 + (t / 2) % 4503599627370495 := by
    show (t % 2) * 2 ^ 63 + 0x7ff0000000000000 + 1 + (t / 2) % (2 ^ 52 - 1) = _
    rfl
  rw [e]
  have h1 : t % 2 < 2 := Nat.mod_lt _ (by decide)
  have h2 : (t / 2) % 4503599627370495 < 4503599627370495 := Nat.mod_lt _ (by decide)
  generalize (t / 2) % 4503599627370495 = b at *
  generalize t % 2 = a at *
  unfold isN p63 infR
  constructor
  · simp only [decide_eq_true_eq]
    have : a = 0 ∨ a = 1 := by omega
    rcases this with rfl | rfl <;> omega
  · omega
theorem canon_fval (op : BinOp) (w : World) (x y : Nat) : canon (fval op w x y) = cop op x y := by
  unfold fval cop
  cases floatBits op .f64 x y with
  | some r => rfl
  | none => simp only []; unfold canon; rw [(cut_isN x y _).1]; rfl
theorem fval_lt (op : BinOp) (w : World) (x y : Nat) : fval op w x y < 18446744073709551616 := by
  unfold fval
  cases h : floatBits op .f64 x y with
  | some r =>
    have := floatBits_wf h
    simpa [Lit.wf] using this
  | none => exact (cut_isN x y _).2
theorem fval_some {op : BinOp} {x y r : Nat} (h : floatBits op .f64 x y = some r) (w : World) : fval op w x y = r := by unfold fval; rw [h]
theorem ndraw_some {op : BinOp} {x y r : Nat} (h : floatBits op .f64 x y = some r) : ndraw op x y = 0 := by unfold ndraw; rw [h]; rfl

theorem run_fop (P : Program) (w : World) (op : BinOp) (hop : op = .add ∨ op = .sub ∨ op = .mul ∨ op = .quo) (t : TypeId) (x y : Nat) :
    (binOp op t (.float .f64 x) (.float .f64 y)).run P w = .ok (.float .f64 (fval op w x y)) (w.drewN (ndraw op x y)) := by
  cases h : floatBits op .f64 x y with
  | some r => rw [run_float_arith w op t .f64 x y r h, fval_some h, ndraw_some h]; rfl
  | none =>
    have e1 : ndraw op x y = 1 := by unfold ndraw; rw [h]; rfl
    have e2 : fval op w x y = (Question.nanBits .f64 x y).cut (w.tape w.drawn (.nanBits .f64 x y)) := by unfold fval; rw [h]
    rw [e1, e2]
    unfold floatBits at h
    rcases hop with rfl | rfl | rfl | rfl <;> simp only at h <;> simp [binOp, Op.floatArith, h, Question.forced] <;> rfl
theorem run_fadd (P : Program) (w : World) (t : TypeId) (x y : Nat) : (binOp .add t (.float .f64 x) (.float .f64 y)).run P w = .ok (.float .f64 (fval .add w x y)) (w.drewN (ndraw .add x y)) := run_fop P w _ (by simp) t x y
theorem run_fsub (P : Program) (w : World) (t : TypeId) (x y : Nat) : (binOp .sub t (.float .f64 x) (.float .f64 y)).run P w = .ok (.float .f64 (fval .sub w x y)) (w.drewN (ndraw .sub x y)) := run_fop P w _ (by simp) t x y
theorem run_fmul (P : Program) (w : World) (t : TypeId) (x y : Nat) : (binOp .mul t (.float .f64 x) (.float .f64 y)).run P w = .ok (.float .f64 (fval .mul w x y)) (w.drewN (ndraw .mul x y)) := run_fop P w _ (by simp) t x y
theorem run_fquo (P : Program) (w : World) (t : TypeId) (x y : Nat) : (binOp .quo t (.float .f64 x) (.float .f64 y)).run P w = .ok (.float .f64 (fval .quo w x y)) (w.drewN (ndraw .quo x y)) := run_fop P w _ (by simp) t x y

end Go.Proofs.Ytnlbafjmbamoeaa

namespace Go.Proofs.Ytnlbafjmbamoeaa
open Ieee (double)

def ltB (x y : Nat) : Bool := !isN x && !isN y && decide (key x < key y)
def eqB (x y : Nat) : Bool := !isN x && !isN y && decide (key x = key y)
def leB (x y : Nat) : Bool := !isN x && !isN y && decide (key x ≤ key y)

theorem cmp_is_lt {a b : Int} : (compare a b == .lt) = decide (a < b) := by
  rcases Int.lt_trichotomy a b with h | h | h
  · rw [cmp_lt h, decide_eq_true h]; rfl
  · rw [cmp_eq h, decide_eq_false (by omega)]; rfl
  · rw [cmp_gt h, decide_eq_false (by omega)]; rfl
theorem cmp_is_gt {a b : Int} : (compare a b == .gt) = decide (b < a) := by
  rcases Int.lt_trichotomy a b with h | h | h
  · rw [cmp_lt h, decide_eq_false (by omega)]; rfl
  · rw [cmp_eq h, decide_eq_false (by omega)]; rfl
  · rw [cmp_gt h, decide_eq_true h]; rfl
theorem cmp_is_eq {a b : Int} : (compare a b == .eq) = decide (a = b) := by
  rcases Int.lt_trichotomy a b with h | h | h
  · rw [cmp_lt h, decide_eq_false (by omega)]; rfl
  · rw [cmp_eq h, decide_eq_true h]; rfl
  · rw [cmp_gt h, decide_eq_false (by omega)]; rfl
theorem ord_any (x y : Nat) (o : Ordering) : (FloatKind.f64.format.order x y == some o) = (!isN x && !isN y && (compare (key x) (key y) == o)) := by
  show (double.order x y == some o) = _
  rw [order_eq]
  cases isN x <;> cases isN y <;> simp
theorem ord_lt (x y : Nat) : (FloatKind.f64.format.order x y == some .lt) = ltB x y := by rw [ord_any, cmp_is_lt]; rfl
theorem ord_eq (x y : Nat) : (FloatKind.f64.format.order x y == some .eq) = eqB x y := by rw [ord_any, cmp_is_eq]; rfl
theorem ord_gt (x y : Nat) : (FloatKind.f64.format.order x y == some .gt) = ltB y x := by
  rw [ord_any, cmp_is_gt]; unfold ltB; cases isN x <;> cases isN y <;> rfl
theorem ord_ne (x y : Nat) : (FloatKind.f64.format.order x y != some .eq) = !eqB x y := by rw [← ord_eq]; rfl
theorem ord_le (x y : Nat) : (ltB x y || eqB x y) = leB x y := by
  unfold ltB eqB leB
  cases isN x <;> cases isN y <;> simp
  rw [Bool.eq_iff_iff]; simp; omega
theorem ord_ge (x y : Nat) : (ltB y x || eqB x y) = leB y x := by
  unfold ltB eqB leB
  cases isN x <;> cases isN y <;> simp
  rw [Bool.eq_iff_iff]; simp; omega
theorem eqB_self (x : Nat) : eqB x x = !isN x := by unfold eqB; simp
theorem ltB_canon (x y : Nat) : ltB (canon x) (canon y) = ltB x y := by rw [← ord_lt, ← ord_lt]; show (double.order _ _ == _) = _; rw [order_canon]; rfl
theorem eqB_canon (x y : Nat) : eqB (canon x) (canon y) = eqB x y := by rw [← ord_eq, ← ord_eq]; show (double.order _ _ == _) = _; rw [order_canon]; rfl

theorem key_lo (x : Nat) : -(9223372036854775808 : Int) < key x ∧ key x < 9223372036854775808 := by
  unfold key p63; split <;> omega
theorem isN_false {x : Nat} (h : isN x = false) : x % p63 ≤ infR := by unfold isN at h; simpa using h
theorem isN_of_le {x : Nat} (h : x % p63 ≤ infR) : isN x = false := by unfold isN; simpa using h
theorem key_abs {x : Nat} (h : isN x = false) : -(infR : Int) ≤ key x ∧ key x ≤ infR := by
  have := isN_false h; unfold key; split <;> omega

def upB (x : Nat) : Nat := if isN x then nanB else if x = infR then x else if x % p63 = 0 then 1 else if neg x then x - 1 else x + 1
def downB (x : Nat) : Nat := if isN x then nanB else if x = p63 + infR then x else if x % p63 = 0 then p63 + 1 else if neg x then x + 1 else x - 1

theorem neg_true {x : Nat} (hx : x < 18446744073709551616) (h : neg x = true) : p63 ≤ x ∧ x % p63 = x - p63 ∧ key x = -((x % p63 : Nat) : Int) := by
  have h' : x / p63 % 2 = 1 := by simpa [neg] using h
  refine ⟨by unfold p63 at *; omega, by unfold p63 at *; omega, by unfold key; rw [if_pos h']⟩
theorem neg_false {x : Nat} (hx : x < 18446744073709551616) (h : neg x = false) : x < p63 ∧ x % p63 = x ∧ key x = (x : Int) := by
  have h' : ¬ x / p63 % 2 = 1 := by simpa [neg] using h
  refine ⟨by unfold p63 at *; omega, by unfold p63 at *; omega, ?_⟩
  unfold key; rw [if_neg h']; unfold p63 at *; omega

theorem of_key {x y : Nat} (hx : x < 18446744073709551616) (hy : y < 18446744073709551616) (h : key x = key y) : x = y ∨ (x % p63 = 0 ∧ y % p63 = 0) := by
  cases h1 : neg x <;> cases h2 : neg y
  · have := neg_false hx h1; have := neg_false hy h2; omega
  · have := neg_false hx h1; have := neg_true hy h2; unfold p63 at *; omega
  · have := neg_true hx h1; have := neg_false hy h2; unfold p63 at *; omega
  · have := neg_true hx h1; have := neg_true hy h2; unfold p63 at *; omega

theorem up_key {x : Nat} (hx : x < 18446744073709551616) (h : isN x = false) : key (upB x) = (if key x = infR then key x else key x + 1) ∧ isN (upB x) = false ∧ upB x < 18446744073709551616 := by
  have hr := isN_false h
  unfold upB
  rw [h]; simp only [Bool.false_eq_true, if_false]
  by_cases h1 : x = infR
  · subst h1; rw [if_pos rfl]; decide
  rw [if_neg h1]
  by_cases h2 : x % p63 = 0
  · rw [if_pos h2]
    have : key x = 0 := by unfold key; rw [h2]; simp
    rw [this]; decide
  rw [if_neg h2]
  cases hn : neg x
  · obtain ⟨a, b, c⟩ := neg_false hx hn
    simp only [Bool.false_eq_true, if_false]
    have d : (x + 1) / p63 = 0 ∧ (x + 1) % p63 = x + 1 := by unfold p63 infR at *; omega
    refine ⟨?_, ?_, by unfold p63 at a; omega⟩
    · rw [c, if_neg (by omega)]; unfold key; rw [d.1, d.2]; simp
    · apply isN_of_le; rw [d.2]; omega
  · obtain ⟨a, b, c⟩ := neg_true hx hn
    simp only [if_true]
    have d : (x - 1) / p63 = 1 ∧ (x - 1) % p63 = x - 1 - p63 := by unfold p63 infR at *; omega
    refine ⟨?_, ?_, by omega⟩
    · rw [c, if_neg (by unfold infR; omega)]; unfold key; rw [d.1, d.2]; simp; omega
    · apply isN_of_le; rw [d.2]; omega
theorem down_key {x : Nat} (hx : x < 18446744073709551616) (h : isN x = false) : key (downB x) = (if key x = -(infR : Int) then key x else key x - 1) ∧ isN (downB x) = false ∧ downB x < 18446744073709551616 := by
  have hr := isN_false h
  unfold downB
  rw [h]; simp only [Bool.false_eq_true, if_false]
  by_cases h1 : x = p63 + infR
  · subst h1; rw [if_pos rfl]; decide
  rw [if_neg h1]
  by_cases h2 : x % p63 = 0
  · rw [if_pos h2]
    have : key x = 0 := by unfold key; rw [h2]; simp
    rw [this]; decide
  rw [if_neg h2]
  cases hn : neg x
  · obtain ⟨a, b, c⟩ := neg_false hx hn
    simp only [Bool.false_eq_true, if_false]
    have d : (x - 1) / p63 = 0 ∧ (x - 1) % p63 = x - 1 := by unfold p63 infR at *; omega
    refine ⟨?_, ?_, by omega⟩
    · rw [c, if_neg (by unfold infR; omega)]; unfold key; rw [d.1, d.2]; simp; omega
    · apply isN_of_le; rw [d.2]; omega
  · obtain ⟨a, b, c⟩ := neg_true hx hn
    simp only [if_true]
    have d : (x + 1) / p63 = 1 ∧ (x + 1) % p63 = x + 1 - p63 := by unfold p63 infR at *; omega
    refine ⟨?_, ?_, by unfold p63 infR at *; omega⟩
    · rw [c, if_neg (by unfold p63 infR at *; omega)]; unfold key; rw [d.1, d.2]; simp; omega
    · apply isN_of_le; rw [d.2]; unfold p63 infR at *; omega

/-- What 'Scale' gives. -/
def ldexpB (x : Nat) (k : Int) : Nat := if x % p63 = 0 ∨ infR ≤ x % p63 then x else double.word (neg x) (rungOf (U (x % p63)) (k - 1074))

end Go.Proofs.Ytnlbafjmbamoeaa

namespace Go.Proofs.Ytnlbafjmbamoeaa
open Ieee (double)

theorem log2_full {f : Nat} (hf : f < p52) : (p52 + f).log2 = 52 := by
  rw [Nat.log2_eq_iff (by have : 0 < p52 := (by decide); omega)]
  have e1 : (2 : Nat) ^ 52 = p52 := by decide
  have e2 : (2 : Nat) ^ (52 + 1) = 2 * p52 := by decide
  rw [e1, e2]; omega

theorem rne_tiny {n d : Nat} (h : 2 * n < 2 ^ d) : rne n d = 0 := by
  unfold rne
  rw [Nat.div_eq_of_lt (by omega), Nat.mod_eq_of_lt (by omega), if_neg (by omega)]

/-- The four ways of the library. -/
theorem ld_core {E f : Nat} (hE : 1 ≤ E) (hf : f < p52) (k e : Int) (he : e = k + E - 1023) :
    (e < -1075 → rungOf ((p52 + f) * 2 ^ (E - 1)) (k - 1074) = 0) ∧
    (1023 < e → rungOf ((p52 + f) * 2 ^ (E - 1)) (k - 1074) = infR) ∧
    (-1022 ≤ e → e ≤ 1023 → rungOf ((p52 + f) * 2 ^ (E - 1)) (k - 1074) = (e + 1023).toNat * p52 + f) ∧
    rungOf ((p52 + f) * 2 ^ (E - 1)) (k - 1074) = rungOf (p52 + f) (e - 52) := by
  have h0 : rungOf ((p52 + f) * 2 ^ (E - 1)) (k - 1074) = rungOf (p52 + f) (e - 52) := by
    have := rungOf_scale (p52 + f) (e - 52) (E - 1)
    rw [show e - 52 - ((E - 1 : Nat) : Int) = k - 1074 by omega] at this
    exact this
  have hl := log2_full hf
  have hp : p52 + f ≠ 0 := by have : 0 < p52 := (by decide); omega
  have hi : infR = 2047 * p52 := by decide
  have mid : -1023 < e → rungOf (p52 + f) (e - 52) = min ((e + 1022).toNat * p52 + (p52 + f)) infR := by
    intro h
    unfold rungOf
    rw [if_neg hp, hl]
    have m1 : max (e - 52 + ((52 : Nat) : Int) - 52) (-1074) = e - 52 := by omega
    rw [m1]
    have m2 : (e - 52 - (e - 52)).toNat = 0 := by omega
    rw [m2, Nat.pow_zero, Nat.mul_one, rne_zero]
    have m3 : (e - 52 + 1074).toNat = (e + 1022).toNat := by omega
    rw [m3]
  refine ⟨fun h => ?_, fun h => ?_, fun h1 h2 => ?_, h0⟩
  · rw [h0]; unfold rungOf
    rw [if_neg hp, hl]
    rw [show max (e - 52 + ((52 : Nat) : Int) - 52) (-1074) = -1074 by omega, show (e - 52 - -1074).toNat = 0 by omega, Nat.pow_zero, Nat.mul_one, rne_tiny]
    · simp
    · have : 2 ^ 54 ≤ 2 ^ (-1074 - (e - 52)).toNat := Nat.pow_le_pow_right (by decide) (by omega)
      have : (2 : Nat) ^ 54 = 4 * p52 := by decide
      omega
  · rw [h0, mid (by omega)]
    have h3 : 2046 * p52 ≤ (e + 1022).toNat * p52 := Nat.mul_le_mul_right _ (by omega)
    generalize (e + 1022).toNat * p52 = a at *
    clear hl h0 mid
    generalize p52 = P at *
    omega
  · rw [h0, mid (by omega)]
    have h3 : (e + 1022).toNat * p52 + p52 = (e + 1023).toNat * p52 := by
      rw [← Nat.succ_mul]; congr 1; omega
    have h4 : (e + 1023).toNat * p52 ≤ 2046 * p52 := Nat.mul_le_mul_right _ (by omega)
    generalize (e + 1022).toNat * p52 = a at *
    generalize (e + 1023).toNat * p52 = b at *
    clear hl h0 mid
    generalize p52 = P at *
    omega

/-- A word of finite magnitude at least the least normal one: its field and its fraction. -/
theorem normal_parts {r : Nat} (h1 : p52 ≤ r) (h2 : r < infR) : 1 ≤ r / p52 ∧ r / p52 ≤ 2046 ∧ r % p52 < p52 ∧ r = r / p52 * p52 + r % p52 ∧ U r = (p52 + r % p52) * 2 ^ (r / p52 - 1) := by
  have hi : infR = 2047 * p52 := by decide
  have a : r / p52 < 2047 := by rw [Nat.div_lt_iff_lt_mul (by decide)]; omega
  refine ⟨(Nat.one_le_div_iff (by decide)).2 h1, by omega, Nat.mod_lt _ (by decide), ?_, ?_⟩
  · have := Nat.div_add_mod r p52; rw [Nat.mul_comm] at this; exact this.symm
  · unfold U; rw [if_neg (by omega)]

theorem U_parts {r a b : Nat} (h : p52 ≤ r) (h1 : r / p52 - 1 = a) (h2 : p52 + r % p52 = 2 ^ b) : U r = 2 ^ (b + a) := by
  unfold U; rw [if_neg (by omega), h1, h2, ← Nat.pow_add]

/-- A small one made normal: 2^52 times as great. -/
theorem mul_norm {x : Nat} (h0 : x % p63 ≠ 0) (h : x % p63 < p52) : double.mul x 4841369599423283200 = some (double.word (neg x) (rungOf (x % p63) (-1022))) ∧
    p52 ≤ rungOf (x % p63) (-1022) ∧ rungOf (x % p63) (-1022) < infR ∧ U (rungOf (x % p63) (-1022)) = x % p63 * 2 ^ 52 := by
  have hlt : x % p63 < infR := by unfold p52 at h; unfold infR; omega
  have hU : U (x % p63) = x % p63 := by unfold U; rw [if_pos h]
  obtain ⟨K, hK, hc⟩ : ∃ K, K = 1074 ∧ U (4841369599423283200 % p63) = 2 ^ (52 + K) := by
    obtain ⟨K, hK⟩ : ∃ K, K = 4841369599423283200 % p63 / p52 - 1 := ⟨_, rfl⟩
    have h1 : p52 + 4841369599423283200 % p63 % p52 = 2 ^ 52 := by decide
    exact ⟨K, by rw [hK]; decide, U_parts (by decide) hK.symm h1⟩
  have e := mul_fin hlt (show 4841369599423283200 % p63 < infR by decide)
  rw [hU, hc, show (-2148 : Int) = -1022 - ((52 + K : Nat) : Int) by omega, rungOf_scale, show (neg x ^^ neg 4841369599423283200) = neg x by cases neg x <;> decide] at e
  have l1 : p52 ≤ rungOf (x % p63) (-1022) := by
    have a := rungOf_mono (-1022) (show 1 ≤ x % p63 by omega)
    exact Nat.le_trans (by decide +kernel) a
  have l2 : rungOf (x % p63) (-1022) < infR := by
    have a := rungOf_mono (-1022) (Nat.le_of_lt h)
    exact Nat.lt_of_le_of_lt a (by decide +kernel)
  refine ⟨e, l1, l2, ?_⟩
  have := U_rungOf (m := x % p63) (p := -1022) (by unfold p52 at h; omega) (by decide) l2
  exact this

end Go.Proofs.Ytnlbafjmbamoeaa
