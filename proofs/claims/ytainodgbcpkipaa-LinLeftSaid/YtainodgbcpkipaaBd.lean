/-
  Ends of from-tos that are narrow: how far they are off what they are around.
-/
import Derived.Test.YtainodgbcpkipaaTrs
import Derived.Test.YtainodgbcpkipaaErr
namespace Go.Proofs.Ytainodgbcpkipaa
open Ieee (double)
/-- From one to the next: not far. -/
theorem U_gap (r : Nat) : U (r + 1) ≤ U r + U r / p52 + 1 := by
  by_cases h : r < p52
  · have h0 : U r = r := by unfold U; rw [if_pos h]
    have hs : U (r + 1) = r + 1 := by
      by_cases h1 : r + 1 < p52
      · unfold U; rw [if_pos h1]
      · have e : r + 1 = p52 := by omega
        have : U p52 = p52 := by decide
        rw [e, this]
    rw [h0, hs]
    generalize r / p52 = q
    omega
  · have hm : r % p52 < p52 := Nat.mod_lt _ (by decide)
    have hq : 1 ≤ r / p52 := (Nat.le_div_iff_mul_le (by decide)).2 (by omega)
    have hE : U r = (p52 + r % p52) * 2 ^ (r / p52 - 1) := by unfold U; rw [if_neg h]
    have hU : U (r + 1) = (p52 + r % p52 + 1) * 2 ^ (r / p52 - 1) := by
      unfold U
      rw [if_neg (by omega)]
      by_cases ht : r % p52 + 1 < p52
      · have e1 : (r + 1) % p52 = r % p52 + 1 := by unfold p52 at *; omega
        have e2 : (r + 1) / p52 = r / p52 := by unfold p52 at *; omega
        rw [e1, e2]; rfl
      · have e1 : (r + 1) % p52 = 0 := by unfold p52 at *; omega
        have e2 : (r + 1) / p52 = r / p52 + 1 := by unfold p52 at *; omega
        rw [e1, e2, show r / p52 + 1 - 1 = r / p52 - 1 + 1 by omega, Nat.pow_succ, Nat.add_zero, show p52 + r % p52 + 1 = p52 * 2 by unfold p52 at *; omega]
        generalize 2 ^ (r / p52 - 1) = X
        rw [Nat.mul_comm X 2, Nat.mul_assoc]
    rw [hU, Nat.succ_mul, ← hE]
    have : 2 ^ (r / p52 - 1) ≤ U r / p52 := by
      rw [Nat.le_div_iff_mul_le (by decide), hE, Nat.mul_comm]
      exact Nat.mul_le_mul_right _ (by omega)
    generalize 2 ^ (r / p52 - 1) = X at *
    generalize U r / p52 = Y at *
    omega
theorem V_key (x : Nat) : V x = if key x < 0 then -(U (key x).natAbs : Int) else U (key x).natAbs := by
  rw [key_eq]
  unfold V
  generalize x % p63 = r
  unfold sgd
  cases neg x
  · simp only [Bool.false_eq_true, if_false]
    rw [if_neg (by omega)]; rfl
  · simp only [if_true]
    by_cases h : r = 0
    · subst h; simp [U_zero]
    · rw [if_pos (by omega)]; simp
theorem down_gap {x : Nat} (hx : x < 18446744073709551616) (hf : x % p63 < infR) : V (downB x) ≤ V x ∧ V x ≤ V (downB x) + ((V x).natAbs / p52 : Nat) + 1 := by
  obtain ⟨k1, k2, k3⟩ := key_fin hf
  obtain ⟨D1, D2, -⟩ := down_key hx k3
  rw [if_neg k2] at D1
  refine ⟨V_le.2 (by omega), ?_⟩
  have e1 := V_key x
  have e2 := V_key (downB x)
  rw [D1] at e2
  by_cases h : 0 < key x
  · rw [if_neg (by omega)] at e1
    rw [if_neg (by omega)] at e2
    have g := U_gap (key x - 1).natAbs
    rw [show (key x - 1).natAbs + 1 = (key x).natAbs by omega] at g
    have m : U (key x - 1).natAbs ≤ U (key x).natAbs := Nat.le_of_lt (U_mono (by omega))
    have d : U (key x - 1).natAbs / p52 ≤ U (key x).natAbs / p52 := Nat.div_le_div_right m
    rw [e1, e2, Int.natAbs_natCast]
    omega
  · have g := U_gap (key x).natAbs
    rw [show (key x).natAbs + 1 = (key x - 1).natAbs by omega] at g
    rw [if_pos (by omega)] at e2
    have e3 : V x = -(U (key x).natAbs : Int) := by
      rw [e1]
      split
      · rfl
      · have : key x = 0 := by omega
        rw [this]; simp [U_zero]
    rw [e3, e2, Int.natAbs_neg, Int.natAbs_natCast]
    omega
theorem up_gap {x : Nat} (hx : x < 18446744073709551616) (hf : x % p63 < infR) : V x ≤ V (upB x) ∧ V (upB x) ≤ V x + ((V x).natAbs / p52 : Nat) + 1 := by
  obtain ⟨k1, k2, k3⟩ := key_fin hf
  obtain ⟨D1, D2, -⟩ := up_key hx k3
  rw [if_neg k1] at D1
  refine ⟨V_le.2 (by omega), ?_⟩
  have e1 := V_key x
  have e2 := V_key (upB x)
  rw [D1] at e2
  by_cases h : key x < 0
  · rw [if_pos h] at e1
    have g := U_gap (key x + 1).natAbs
    rw [show (key x + 1).natAbs + 1 = (key x).natAbs by omega] at g
    have m : U (key x + 1).natAbs ≤ U (key x).natAbs := Nat.le_of_lt (U_mono (by omega))
    have d : U (key x + 1).natAbs / p52 ≤ U (key x).natAbs / p52 := Nat.div_le_div_right m
    have e3 : V (upB x) = -(U (key x + 1).natAbs : Int) := by
      rw [e2]
      split
      · rfl
      · have : key x + 1 = 0 := by omega
        rw [this]; simp [U_zero]
    rw [e1, e3, Int.natAbs_neg, Int.natAbs_natCast]
    omega
  · have g := U_gap (key x).natAbs
    rw [show (key x).natAbs + 1 = (key x + 1).natAbs by omega] at g
    rw [if_neg (by omega)] at e1 e2
    rw [e1, e2, Int.natAbs_natCast]
    omega
end Go.Proofs.Ytainodgbcpkipaa
namespace Go.Proofs.Ytainodgbcpkipaa.Ex
open Go
open Ieee (double)
variable {P : Program} {V : Val}
abbrev VI (x : Nat) : Int := Go.Proofs.Ytainodgbcpkipaa.V x

def e1014 : Nat := 1014
def uD : Nat := 2 ^ e1014
theorem uD_pos : 0 < uD := Nat.two_pow_pos _
theorem uD_pow (j : Nat) : 2 ^ (j + e1014) = 2 ^ j * uD := Nat.pow_add 2 j e1014
theorem uD_eq : (2 ^ ((-60 : Int) + 1074).toNat : Nat) = uD := congrArg (fun n => 2 ^ n) (show ((-60 : Int) + 1074).toNat = e1014 from by decide)
theorem fit_k {j : Nat} (h : j ≤ 900) : (-1074 : Int) + ((j + e1014 : Nat) : Int) ≤ 1023 := by
  have : e1014 = 1014 := rfl
  omega
theorem le_k (j : Nat) : j + e1014 - 53 ≤ j - 53 + e1014 := by
  have : e1014 = 1014 := rfl
  omega
def e900 : Nat := 900
def e902 : Nat := 902
def e1001 : Nat := 1001
def e2046' : Nat := 2046
theorem ex_a : e1001 + e1014 ≤ e2046' := by decide
theorem ex_b {j : Nat} (h : j ≤ e902) : j ≤ e1001 := Nat.le_trans h (by decide)
theorem ex_c {j : Nat} (h : j ≤ 900) : 2 ^ j ≤ 2 ^ e900 ∧ 2 ^ (j - 52) + 1 ≤ 2 ^ e900 := by
  have e : e900 = 900 := rfl
  have h1 : j ≤ e900 := by rw [e]; exact h
  refine ⟨Nat.pow_le_pow_right (by decide) h1, ?_⟩
  have h2 : j - 52 + 1 ≤ e900 := by rw [e]; omega
  have h3 : 2 ^ (j - 52 + 1) ≤ 2 ^ e900 := Nat.pow_le_pow_right (by decide) h2
  rw [Nat.pow_succ] at h3
  have h4 := Nat.two_pow_pos (j - 52)
  generalize 2 ^ (j - 52) = X at *
  generalize 2 ^ e900 = Y at *
  omega
theorem ex_d : 2 ^ e902 * uD = 4 * (2 ^ e900 * uD) := by
  have : 2 ^ e902 = 2 ^ e900 * 2 ^ 2 := (congrArg (fun n => 2 ^ n) (show e902 = e900 + 2 from by decide)).trans (Nat.pow_add 2 e900 2)
  rw [this]
  generalize 2 ^ e900 = X
  rw [Nat.mul_comm X, Nat.mul_assoc]
/-- In units of 2^-60: a polynomial, how far off at most. -/
def Bd (V : Val) (r : Pol × Nat) (x : Nat) : Prop := ∃ q : Int, r.1.OK V q ∧ x < 18446744073709551616 ∧ x % p63 < infR ∧ (q - (r.2 : Int)) * (uD : Int) ≤ VI x ∧ VI x ≤ (q + (r.2 : Int)) * (uD : Int)
def bitsB (r : Pol × Nat) : Nat := (topP r.1 + r.2).log2 + 1
theorem Bd.top {r : Pol × Nat} {x : Nat} (h : Bd V r x) : (VI x).natAbs < 2 ^ bitsB r * uD := by
  obtain ⟨q, hq, -, -, h1, h2⟩ := h
  have ht := topP_ok hq
  have hb : topP r.1 + r.2 < 2 ^ bitsB r := lt_pow_log _
  have hu := uD_pos
  have a : ((q.natAbs + r.2) * uD : Nat) < 2 ^ bitsB r * uD := Nat.mul_lt_mul_of_pos_right (by omega) hu
  have b : (q + (r.2 : Int)) * (uD : Int) ≤ (((q.natAbs + r.2) * uD : Nat) : Int) := by
    rw [Int.natCast_mul]
    exact Int.mul_le_mul_of_nonneg_right (by omega) (Int.natCast_nonneg _)
  have c : -(((q.natAbs + r.2) * uD : Nat) : Int) ≤ (q - (r.2 : Int)) * (uD : Int) := by
    rw [Int.natCast_mul, ← Int.neg_mul]
    exact Int.mul_le_mul_of_nonneg_right (by omega) (Int.natCast_nonneg _)
  generalize (q.natAbs + r.2) * uD = X at *
  generalize 2 ^ bitsB r * uD = Y at *
  omega
theorem is_self {x : Nat} (h1 : x < 18446744073709551616) (h2 : x % p63 < infR) : Is x (VI x) (-1074) := ⟨h1, h2, Int.le_refl _, by
  show VI x = VI x * ((2 ^ ((-1074 : Int) + 1074).toNat : Nat) : Int)
  rw [show ((-1074 : Int) + 1074).toNat = 0 by decide]; simp⟩
theorem is_V {x : Nat} {m : Int} (h : Is x m (-1074)) : VI x = m := by
  have := h.2.2.2
  rw [show ((-1074 : Int) + 1074).toNat = 0 by decide] at this
  show VI x = m
  rw [show VI x = Go.Proofs.Ytainodgbcpkipaa.V x from rfl, this]; simp
def bdX (e : E) : Option (Pol × Nat) := match exA e with
  | some r => match downA r (-60) with
    | some s => some (s.1, s.2.1)
    | none => none
  | none => none
theorem bdX_ok (hV : StdV V) {e : E} {r : Pol × Nat} (h : bdX e = some r) : Bd V r (evF V e) := by
  unfold bdX at h
  split at h
  · rename_i a ha
    split at h
    · rename_i s hs
      simp only [Option.some.injEq] at h
      subst h
      obtain ⟨⟨m, q, hq, hi, h1, h2⟩, hk⟩ := downA_ok hs (exA_ok hV ha)
      rw [hk] at hi
      have hv : VI (evF V e) = m * (uD : Int) := by rw [← uD_eq]; exact hi.2.2.2
      refine ⟨q, hq, hi.lt, hi.fin, ?_, ?_⟩
      · rw [hv]; exact Int.mul_le_mul_of_nonneg_right h1 (Int.natCast_nonneg _)
      · rw [hv]; exact Int.mul_le_mul_of_nonneg_right h2 (Int.natCast_nonneg _)
    · cases h
  · cases h
/-- What is added, taken away, rounded. -/
def rndB (p : Pol) (e : Nat) : Option (Pol × Nat) := bif decide (bitsB (p, e) ≤ 900) then some (p, e + 2 ^ (bitsB (p, e) - 53)) else none
theorem rndB_ok {p : Pol} {e : Nat} {r : Pol × Nat} (h : rndB p e = some r) {x : Nat} {n q : Int} (hq : p.OK V q) (h1 : (q - (e : Int)) * (uD : Int) ≤ n) (h2 : n ≤ (q + (e : Int)) * (uD : Int)) (hx : Fits n (-1074) → Is x (rn n) (-1074)) : Bd V r x := by
  unfold rndB at h
  cases hc : decide (bitsB (p, e) ≤ 900) <;> rw [hc] at h
  · cases h
  · simp only [cond_true, Option.some.injEq] at h
    subst h
    simp only [decide_eq_true_eq] at hc
    have ht := topP_ok hq
    have hb : topP p + e < 2 ^ bitsB (p, e) := lt_pow_log _
    have hu := uD_pos
    have hn : n.natAbs < 2 ^ (bitsB (p, e) + e1014) := by
      rw [uD_pow]
      have a : ((q.natAbs + e) * uD : Nat) < 2 ^ bitsB (p, e) * uD := Nat.mul_lt_mul_of_pos_right (by omega) hu
      have b : (q + (e : Int)) * (uD : Int) ≤ (((q.natAbs + e) * uD : Nat) : Int) := by
        rw [Int.natCast_mul]
        exact Int.mul_le_mul_of_nonneg_right (by omega) (Int.natCast_nonneg _)
      have c : -(((q.natAbs + e) * uD : Nat) : Int) ≤ (q - (e : Int)) * (uD : Int) := by
        rw [Int.natCast_mul, ← Int.neg_mul]
        exact Int.mul_le_mul_of_nonneg_right (by omega) (Int.natCast_nonneg _)
      generalize (q.natAbs + e) * uD = X at *
      generalize 2 ^ bitsB (p, e) * uD = Y at *
      omega
    have hf : Fits n (-1074) := fits_of _ 1023 hn (fit_k hc) (Nat.le_refl _)
    obtain ⟨r1, r2⟩ := rn_err _ hn
    have hi := hx hf
    have hv := is_V hi
    have hle : 2 ^ (bitsB (p, e) + e1014 - 53) ≤ 2 ^ (bitsB (p, e) - 53) * uD := by
      rw [← uD_pow]
      exact Nat.pow_le_pow_right (by decide) (le_k _)
    have e3 : ((e + 2 ^ (bitsB (p, e) - 53) : Nat) : Int) = (e : Int) + ((2 ^ (bitsB (p, e) - 53) : Nat) : Int) := Int.natCast_add _ _
    have e4 : ((2 ^ (bitsB (p, e) - 53) * uD : Nat) : Int) = ((2 ^ (bitsB (p, e) - 53) : Nat) : Int) * (uD : Int) := Int.natCast_mul _ _
    refine ⟨q, hq, hi.lt, hi.fin, ?_, ?_⟩
    · show (q - ((e + 2 ^ (bitsB (p, e) - 53) : Nat) : Int)) * (uD : Int) ≤ VI x
      rw [hv, e3, Int.sub_mul, Int.add_mul, ← e4]
      rw [Int.sub_mul] at h1
      generalize 2 ^ (bitsB (p, e) - 53) * uD = Y at *
      generalize 2 ^ (bitsB (p, e) + e1014 - 53) = Z at *
      omega
    · show VI x ≤ (q + ((e + 2 ^ (bitsB (p, e) - 53) : Nat) : Int)) * (uD : Int)
      rw [hv, e3, Int.add_mul, Int.add_mul, ← e4]
      rw [Int.add_mul] at h2
      generalize 2 ^ (bitsB (p, e) - 53) * uD = Y at *
      generalize 2 ^ (bitsB (p, e) + e1014 - 53) = Z at *
      omega
def addB (a b : Pol × Nat) : Option (Pol × Nat) := rndB (a.1.add b.1) (a.2 + b.2)
def subB (a b : Pol × Nat) : Option (Pol × Nat) := rndB (a.1.sub b.1) (a.2 + b.2)
theorem addB_ok {a b r : Pol × Nat} (h : addB a b = some r) {x y : Nat} (hx : Bd V a x) (hy : Bd V b y) : Bd V r (cop .add x y) := by
  obtain ⟨p, hp, l1, f1, h1, h2⟩ := hx
  obtain ⟨q, hq, l2, f2, g1, g2⟩ := hy
  refine rndB_ok h (hp.add hq) (n := VI x + VI y) ?_ ?_ fun hf => ?_
  · rw [Int.natCast_add, show p + q - ((a.2 : Int) + (b.2 : Int)) = (p - a.2) + (q - b.2) by omega, Int.add_mul]; omega
  · rw [Int.natCast_add, show p + q + ((a.2 : Int) + (b.2 : Int)) = (p + a.2) + (q + b.2) by omega, Int.add_mul]; omega
  · obtain ⟨r, h3, h4⟩ := is_add (is_self l1 f1) (is_self l2 f2) hf
    exact cop_is (op := .add) h3 h4
theorem subB_ok {a b r : Pol × Nat} (h : subB a b = some r) {x y : Nat} (hx : Bd V a x) (hy : Bd V b y) : Bd V r (cop .sub x y) := by
  obtain ⟨p, hp, l1, f1, h1, h2⟩ := hx
  obtain ⟨q, hq, l2, f2, g1, g2⟩ := hy
  refine rndB_ok h (hp.sub hq) (n := VI x - VI y) ?_ ?_ fun hf => ?_
  · rw [Int.natCast_add, show p - q - ((a.2 : Int) + (b.2 : Int)) = (p - a.2) - (q + b.2) by omega, Int.sub_mul]; omega
  · rw [Int.natCast_add, show p - q + ((a.2 : Int) + (b.2 : Int)) = (p + a.2) - (q - b.2) by omega, Int.sub_mul]; omega
  · obtain ⟨r, h3, h4⟩ := is_sub (is_self l1 f1) (is_self l2 f2) hf
    exact cop_is (op := .sub) h3 h4
/-- One number further. -/
def stepB (a : Pol × Nat) : Option (Pol × Nat) := bif decide (bitsB a ≤ 900) then some (a.1, a.2 + (2 ^ (bitsB a - 52) + 1)) else none
theorem fin_top {x : Nat} (hn : isN x = false) {j : Nat} (hj : j ≤ e902) (h : (VI x).natAbs < 2 ^ j * uD) : x % p63 < infR := by
  have hle := isN_false hn
  rcases Nat.lt_or_ge (x % p63) infR with g | g
  · exact g
  · exfalso
    have e : x % p63 = infR := by omega
    have hv : (VI x).natAbs = U infR := by
      show (Go.Proofs.Ytainodgbcpkipaa.V x).natAbs = _
      unfold Go.Proofs.Ytainodgbcpkipaa.V sgd
      rw [e]
      cases neg x <;> simp
    rw [hv] at h
    have hU : 2 ^ (e1001 + e1014) ≤ U infR := by
      have h1 : infR % p52 = 0 := by decide
      have h2 : infR / p52 - 1 = e2046' := by decide
      unfold U
      rw [if_neg (by decide), h1, h2, Nat.add_zero]
      exact Nat.le_trans (Nat.pow_le_pow_right (n := 2) (by decide) ex_a) (Nat.le_mul_of_pos_left _ (by decide))
    rw [uD_pow] at hU
    have hm : 2 ^ j * uD ≤ 2 ^ e1001 * uD := Nat.mul_le_mul_right _ (Nat.pow_le_pow_right (by decide) (ex_b hj))
    exact absurd (Nat.lt_of_lt_of_le h (Nat.le_trans hm hU)) (Nat.lt_irrefl _)
theorem gap_le {x j : Nat} (h : (VI x).natAbs < 2 ^ j * uD) : (VI x).natAbs / p52 + 1 ≤ (2 ^ (j - 52) + 1) * uD := by
  have hu := uD_pos
  have h1 : (VI x).natAbs / p52 ≤ 2 ^ (j - 52) * uD := by
    have hp : p52 = 2 ^ 52 := by decide
    refine Nat.div_le_of_le_mul ?_
    have : 2 ^ j * uD ≤ p52 * (2 ^ (j - 52) * uD) := by
      rw [hp, ← Nat.mul_assoc, ← Nat.pow_add]
      exact Nat.mul_le_mul_right _ (Nat.pow_le_pow_right (by decide) (by omega))
    omega
  rw [Nat.add_mul, Nat.one_mul]
  omega
theorem step_core {a r : Pol × Nat} (h : stepB a = some r) {x y : Nat} (hx : Bd V a x) (hy : y < 18446744073709551616) (ny : isN y = false) (h1 : (VI x - ((VI x).natAbs / p52 : Nat) - 1 ≤ VI y)) (h2 : VI y ≤ VI x + ((VI x).natAbs / p52 : Nat) + 1) : Bd V r y := by
  unfold stepB at h
  cases hc : decide (bitsB a ≤ 900) <;> rw [hc] at h
  · cases h
  · simp only [cond_true, Option.some.injEq] at h
    subst h
    simp only [decide_eq_true_eq] at hc
    have ht := hx.top
    have hg := gap_le ht
    obtain ⟨q, hq, l, f, g1, g2⟩ := hx
    have hfin : y % p63 < infR := by
      refine fin_top ny (j := e902) (Nat.le_refl _) ?_
      have b1 : 2 ^ bitsB a * uD ≤ 2 ^ e900 * uD := Nat.mul_le_mul_right _ (ex_c hc).1
      have b2 : (2 ^ (bitsB a - 52) + 1) * uD ≤ 2 ^ e900 * uD := Nat.mul_le_mul_right _ (ex_c hc).2
      rw [ex_d]
      generalize 2 ^ e900 * uD = W at *
      generalize 2 ^ bitsB a * uD = X at *
      generalize (2 ^ (bitsB a - 52) + 1) * uD = Y at *
      generalize (VI x).natAbs / p52 = Z at *
      omega
    have e3 : ((a.2 + (2 ^ (bitsB a - 52) + 1) : Nat) : Int) * (uD : Int) = (a.2 : Int) * (uD : Int) + (((2 ^ (bitsB a - 52) + 1) * uD : Nat) : Int) := by
      rw [Int.natCast_add, Int.add_mul, Int.natCast_mul]
    refine ⟨q, hq, hy, hfin, ?_, ?_⟩
    · show (q - ((a.2 + (2 ^ (bitsB a - 52) + 1) : Nat) : Int)) * (uD : Int) ≤ VI y
      rw [Int.sub_mul, e3]
      rw [Int.sub_mul] at g1
      generalize (2 ^ (bitsB a - 52) + 1) * uD = Y at *
      generalize (VI x).natAbs / p52 = Z at *
      omega
    · show VI y ≤ (q + ((a.2 + (2 ^ (bitsB a - 52) + 1) : Nat) : Int)) * (uD : Int)
      rw [Int.add_mul, e3]
      rw [Int.add_mul] at g2
      generalize (2 ^ (bitsB a - 52) + 1) * uD = Y at *
      generalize (VI x).natAbs / p52 = Z at *
      omega
theorem downB_bd {a r : Pol × Nat} (h : stepB a = some r) {x : Nat} (hx : Bd V a x) : Bd V r (downB x) := by
  obtain ⟨q, hq, l, f, g1, g2⟩ := hx
  have n := (key_fin f).2.2
  obtain ⟨-, d2, d3⟩ := down_key l n
  have k := down_gap l f
  change VI (downB x) ≤ VI x ∧ VI x ≤ VI (downB x) + ((VI x).natAbs / p52 : Nat) + 1 at k
  refine step_core h ⟨q, hq, l, f, g1, g2⟩ d3 d2 ?_ ?_
  · generalize (VI x).natAbs / p52 = Z at *
    omega
  · generalize (VI x).natAbs / p52 = Z at *
    omega
theorem upB_bd {a r : Pol × Nat} (h : stepB a = some r) {x : Nat} (hx : Bd V a x) : Bd V r (upB x) := by
  obtain ⟨q, hq, l, f, g1, g2⟩ := hx
  have n := (key_fin f).2.2
  obtain ⟨-, d2, d3⟩ := up_key l n
  have k := up_gap l f
  change VI x ≤ VI (upB x) ∧ VI (upB x) ≤ VI x + ((VI x).natAbs / p52 : Nat) + 1 at k
  refine step_core h ⟨q, hq, l, f, g1, g2⟩ d3 d2 ?_ ?_
  · generalize (VI x).natAbs / p52 = Z at *
    omega
  · generalize (VI x).natAbs / p52 = Z at *
    omega

/-- Ends in order. -/
def raE (t : Nms) : Nat → E → E → Bool
  | 0, _, _ => false
  | n + 1, lo, hi => match open1 t lo, open1 t hi with
    | .af f i x, .af g j y => ivIs (ivOf f) f && (Nat.beq g f && (Nat.beq i 0 && (Nat.beq j 1 && (decide (y = x) && (match args4 x with
      | some (a, b, c, d) => raE t n a b && raE t n c d
      | none => false)))))
    | lo, hi => finE lo && (finE hi && (decide (hi = lo) || leE lo hi))
theorem raE_ok (hW : IvV V) {t : Nms} (ht : ∀ x, x ∈ t → V.f x.2.1 = evF V x.2.2) : ∀ (n : Nat) (lo hi : E), raE t n lo hi = true → Ra (evF V lo) (evF V hi)
  | 0, _, _, h => by cases h
  | n + 1, lo, hi, h => by
    have hV := hW.toStdV
    unfold raE at h
    rw [← open1_ok ht lo, ← open1_ok ht hi]
    generalize open1 t lo = lo at *
    generalize open1 t hi = hi at *
    split at h
    · rename_i f i x g j y
      simp only [Bool.and_eq_true, decide_eq_true_eq] at h
      obtain ⟨q1, q2, q3, q4, rfl, h⟩ := h
      have := Nat.eq_of_beq_eq_true q2; subst this
      have := Nat.eq_of_beq_eq_true q3; subst this
      have := Nat.eq_of_beq_eq_true q4; subst this
      split at h
      · rename_i a b c d e1
        rw [args4_ok e1]
        rw [Bool.and_eq_true] at h
        obtain ⟨F, hF, hE⟩ := iv_op hW q1
        rw [(hE a b c d).1, (hE a b c d).2]
        exact hF.ra (raE_ok hW ht n a b h.1) (raE_ok hW ht n c d h.2)
      · cases h
    · simp only [Bool.and_eq_true, Bool.or_eq_true, decide_eq_true_eq] at h
      obtain ⟨h1, h2, h3⟩ := h
      rcases h3 with rfl | h3
      · exact Ra.point (finE_ok hV h1)
      · exact ra_fin (finE_ok hV h1) (finE_ok hV h2) (leE_ok hV h3)
theorem mul_point {a c : Nat} (h : isN (cop .mul a c) = false) : mulP a a c c = (downB (cop .mul a c), upB (cop .mul a c)) := by
  unfold mulP aroundP
  generalize hs : cop .mul a c = s at *
  have hl : s < 18446744073709551616 := by rw [← hs]; exact cop_lt _ _ _
  have e1 : minL s [s, s, s, s] = s := by simp [minL]
  have e2 : maxL s [s, s, s, s] = s := by simp [maxL]
  rw [h, e1, e2]
  exact outP_val hl hl h h (Int.le_refl _)
def stepO (o : Option (Pol × Nat)) : Option (Pol × Nat) := match o with
  | some a => stepB a
  | none => none
def opt2B (f : Pol × Nat → Pol × Nat → Option (Pol × Nat)) : Option (Pol × Nat) → Option (Pol × Nat) → Option (Pol × Nat)
  | some a, some b => f a b
  | _, _ => none
/-- Of an end: what it is near. -/
def bdN (t : Nms) : Nat → E → Option (Pol × Nat)
  | 0, _ => none
  | n + 1, e => match open1 t e with
    | .af f i x => (match args4 x with
      | some (a, b, c, d) => bif Nat.beq f 21 && (raE t 200 a b && raE t 200 c d) then
          (bif Nat.beq i 0 then stepO (opt2B subB (bdN t n a) (bdN t n d)) else bif Nat.beq i 1 then stepO (opt2B subB (bdN t n b) (bdN t n c)) else none)
        else bif Nat.beq f 20 && (raE t 200 a b && raE t 200 c d) then
          (bif Nat.beq i 0 then stepO (opt2B addB (bdN t n a) (bdN t n c)) else bif Nat.beq i 1 then stepO (opt2B addB (bdN t n b) (bdN t n d)) else none)
        else bif Nat.beq f 22 && (decide (b = a) && decide (d = c)) then
          (bif Nat.beq i 0 || Nat.beq i 1 then stepO (bdX (.fb .mul a c)) else none)
        else none
      | none => none)
    | e => bdX e
theorem stepO_ok {o : Option (Pol × Nat)} {r : Pol × Nat} (h : stepO o = some r) : ∃ a, o = some a ∧ stepB a = some r := by
  cases o with
  | none => cases h
  | some a => exact ⟨a, rfl, h⟩
theorem opt2B_ok {f : Pol × Nat → Pol × Nat → Option (Pol × Nat)} {a b : Option (Pol × Nat)} {r : Pol × Nat} (h : opt2B f a b = some r) : ∃ x y, a = some x ∧ b = some y ∧ f x y = some r := by
  unfold opt2B at h
  split at h
  · exact ⟨_, _, rfl, rfl, h⟩
  · cases h
theorem out_ra {p q : Nat} (hp : p < 18446744073709551616) (hq : q < 18446744073709551616) (np : isN p = false) (nq : isN q = false) (h : key p ≤ key q) : (outP p q).1 = downB p ∧ (outP p q).2 = upB q := by
  rw [outP_val hp hq np nq h]; exact ⟨rfl, rfl⟩
theorem bdN_ok (hW : IvV V) {t : Nms} (ht : ∀ x, x ∈ t → V.f x.2.1 = evF V x.2.2) : ∀ (n : Nat) {e : E} {r : Pol × Nat}, bdN t n e = some r → Bd V r (evF V e)
  | 0, _, _, h => by cases h
  | n + 1, e, r, h => by
    have hV := hW.toStdV
    unfold bdN at h
    rw [← open1_ok ht e]
    generalize open1 t e = e at *
    split at h
    · rename_i f i x
      split at h
      · rename_i a b c d e1
        rw [args4_ok e1]
        have go : ∀ {op : BinOp}, ivIs op f = true → raE t 200 a b = true → raE t 200 c d = true → Ra (evF V a) (evF V b) ∧ Ra (evF V c) (evF V d) := fun _ h1 h2 => ⟨raE_ok hW ht _ _ _ h1, raE_ok hW ht _ _ _ h2⟩
        cases h21 : (Nat.beq f 21 && (raE t 200 a b && raE t 200 c d)) <;> rw [h21] at h
        · simp only [cond_false] at h
          cases h20 : (Nat.beq f 20 && (raE t 200 a b && raE t 200 c d)) <;> rw [h20] at h
          · simp only [cond_false] at h
            cases h22 : (Nat.beq f 22 && (decide (b = a) && decide (d = c))) <;> rw [h22] at h
            · cases h
            · simp only [cond_true] at h
              simp only [Bool.and_eq_true, decide_eq_true_eq] at h22
              obtain ⟨hf, rfl, rfl⟩ := h22
              have := Nat.eq_of_beq_eq_true hf; subst this
              obtain ⟨F, -, -⟩ := iv_op hW (op := .mul) (f := 22) rfl
              cases hi : (Nat.beq i 0 || Nat.beq i 1) <;> rw [hi] at h
              · cases h
              · simp only [cond_true] at h
                obtain ⟨s, hs, h⟩ := stepO_ok h
                have hb := bdX_ok hV hs
                have hn : isN (cop .mul (evF V b) (evF V d)) = false := (key_fin hb.choose_spec.2.2.1).2.2
                have hm := mul_point hn
                rw [Bool.or_eq_true] at hi
                rcases hi with hi | hi
                · have := Nat.eq_of_beq_eq_true hi; subst this
                  have ev : evF V (.af 22 0 (f4 b b d d)) = (mulP (evF V b) (evF V b) (evF V d) (evF V d)).1 := by show V.ff 22 0 _ = _; rw [hW.x _ _ _ (by decide) (by decide)]; rfl
                  rw [ev, hm]
                  exact downB_bd h hb
                · have := Nat.eq_of_beq_eq_true hi; subst this
                  have ev : evF V (.af 22 1 (f4 b b d d)) = (mulP (evF V b) (evF V b) (evF V d) (evF V d)).2 := by show V.ff 22 1 _ = _; rw [hW.x _ _ _ (by decide) (by decide)]; rfl
                  rw [ev, hm]
                  exact upB_bd h hb
          · simp only [cond_true] at h
            simp only [Bool.and_eq_true] at h20
            obtain ⟨hf, r1, r2⟩ := h20
            have := Nat.eq_of_beq_eq_true hf; subst this
            obtain ⟨g1, g2⟩ := go (op := .add) rfl r1 r2
            obtain ⟨o1, o2, o3⟩ := add_out g1 g2
            obtain ⟨k1, k2⟩ := out_ra (cop_lt .add (evF V a) (evF V c)) (cop_lt .add (evF V b) (evF V d)) o1 o2 o3
            cases h0 : Nat.beq i 0 <;> rw [h0] at h
            · simp only [cond_false] at h
              cases hi : Nat.beq i 1 <;> rw [hi] at h
              · cases h
              · simp only [cond_true] at h
                have := Nat.eq_of_beq_eq_true hi; subst this
                obtain ⟨s, hs, h⟩ := stepO_ok h
                obtain ⟨x, y, hx, hy, hs⟩ := opt2B_ok hs
                have ev : evF V (.af 20 1 (f4 a b c d)) = (addP (evF V a) (evF V b) (evF V c) (evF V d)).2 := by show V.ff 20 1 _ = _; rw [hW.x _ _ _ (by decide) (by decide)]; rfl
                rw [ev]
                show Bd V r (outP _ _).2
                rw [k2]
                exact upB_bd h (addB_ok hs (bdN_ok hW ht n hx) (bdN_ok hW ht n hy))
            · simp only [cond_true] at h
              have := Nat.eq_of_beq_eq_true h0; subst this
              obtain ⟨s, hs, h⟩ := stepO_ok h
              obtain ⟨x, y, hx, hy, hs⟩ := opt2B_ok hs
              have ev : evF V (.af 20 0 (f4 a b c d)) = (addP (evF V a) (evF V b) (evF V c) (evF V d)).1 := by show V.ff 20 0 _ = _; rw [hW.x _ _ _ (by decide) (by decide)]; rfl
              rw [ev]
              show Bd V r (outP _ _).1
              rw [k1]
              exact downB_bd h (addB_ok hs (bdN_ok hW ht n hx) (bdN_ok hW ht n hy))
        · simp only [cond_true] at h
          simp only [Bool.and_eq_true] at h21
          obtain ⟨hf, r1, r2⟩ := h21
          have := Nat.eq_of_beq_eq_true hf; subst this
          obtain ⟨g1, g2⟩ := go (op := .sub) rfl r1 r2
          obtain ⟨o1, o2, o3⟩ := add_out g1 g2.flip
          rw [← sub_add g2.nb, ← sub_add g2.na] at o3
          rw [← sub_add g2.nb] at o1
          rw [← sub_add g2.na] at o2
          obtain ⟨k1, k2⟩ := out_ra (cop_lt .sub (evF V a) (evF V d)) (cop_lt .sub (evF V b) (evF V c)) o1 o2 o3
          cases h0 : Nat.beq i 0 <;> rw [h0] at h
          · simp only [cond_false] at h
            cases hi : Nat.beq i 1 <;> rw [hi] at h
            · cases h
            · simp only [cond_true] at h
              have := Nat.eq_of_beq_eq_true hi; subst this
              obtain ⟨s, hs, h⟩ := stepO_ok h
              obtain ⟨x, y, hx, hy, hs⟩ := opt2B_ok hs
              have ev : evF V (.af 21 1 (f4 a b c d)) = (subP (evF V a) (evF V b) (evF V c) (evF V d)).2 := by show V.ff 21 1 _ = _; rw [hW.x _ _ _ (by decide) (by decide)]; rfl
              rw [ev]
              show Bd V r (outP _ _).2
              rw [k2]
              exact upB_bd h (subB_ok hs (bdN_ok hW ht n hx) (bdN_ok hW ht n hy))
          · simp only [cond_true] at h
            have := Nat.eq_of_beq_eq_true h0; subst this
            obtain ⟨s, hs, h⟩ := stepO_ok h
            obtain ⟨x, y, hx, hy, hs⟩ := opt2B_ok hs
            have ev : evF V (.af 21 0 (f4 a b c d)) = (subP (evF V a) (evF V b) (evF V c) (evF V d)).1 := by show V.ff 21 0 _ = _; rw [hW.x _ _ _ (by decide) (by decide)]; rfl
            rw [ev]
            show Bd V r (outP _ _).1
            rw [k1]
            exact downB_bd h (subB_ok hs (bdN_ok hW ht n hx) (bdN_ok hW ht n hy))
      · cases h
    · exact bdX_ok hV h
/-- Surely less. -/
def ltX (t : Nms) (a b : E) : Bool := match bdN t 60 a, bdN t 60 b with
  | some x, some y => decide ((x.2 : Int) + (y.2 : Int) < lowP (y.1.sub x.1))
  | _, _ => false
theorem ltX_ok (hW : IvV V) {t : Nms} (ht : ∀ x, x ∈ t → V.f x.2.1 = evF V x.2.2) {a b : E} (h : ltX t a b = true) : key (evF V a) < key (evF V b) ∧ isN (evF V a) = false ∧ isN (evF V b) = false := by
  unfold ltX at h
  split at h
  · rename_i x y hx hy
    simp only [decide_eq_true_eq] at h
    obtain ⟨p, hp, l1, f1, h1, h2⟩ := bdN_ok hW ht 60 hx
    obtain ⟨q, hq, l2, f2, g1, g2⟩ := bdN_ok hW ht 60 hy
    have hl := lowP_ok hW.toStdV (hq.sub hp)
    have hlt : VI (evF V a) < VI (evF V b) := by
      have : (p + (x.2 : Int)) * (uD : Int) < (q - (y.2 : Int)) * (uD : Int) := Int.mul_lt_mul_of_pos_right (by omega) (by have := uD_pos; omega)
      omega
    exact ⟨V_lt.1 hlt, (key_fin f1).2.2, (key_fin f2).2.2⟩
  · cases h
def bdD (t : Nms) (D : List (E × Bool) → E → Option Bool) (l : List (E × Bool)) (e : E) : Option Bool := match D l e with
  | some b => some b
  | none => match e with
    | .fc .leq a b => bif ltX t b a then some false else bif ltX t a b then some true else none
    | .fc .lss a b => bif ltX t b a then some false else bif ltX t a b then some true else none
    | _ => none
theorem bdD_ok (hW : IvV V) {t : Nms} (ht : ∀ x, x ∈ t → V.f x.2.1 = evF V x.2.2) {D : List (E × Bool) → E → Option Bool} (hD : DOK V D) : DOK V (bdD t D) := by
  intro l hl e b h
  unfold bdD at h
  split at h
  · rename_i b' hb
    simp only [Option.some.injEq] at h
    subst h
    exact hD l hl _ _ hb
  · split at h
    · rename_i x y _
      cases hc : ltX t y x <;> rw [hc] at h
      · simp only [cond_false] at h
        cases hd : ltX t x y <;> rw [hd] at h
        · cases h
        · simp only [cond_true, Option.some.injEq] at h
          subst h
          obtain ⟨a1, a2, a3⟩ := ltX_ok hW ht hd
          show leB (evF V x) (evF V y) = true
          unfold leB; rw [a2, a3]; simp; omega
      · simp only [cond_true, Option.some.injEq] at h
        subst h
        obtain ⟨a1, a2, a3⟩ := ltX_ok hW ht hc
        show leB (evF V x) (evF V y) = false
        unfold leB; rw [a2, a3]; simp; omega
    · rename_i x y _
      cases hc : ltX t y x <;> rw [hc] at h
      · simp only [cond_false] at h
        cases hd : ltX t x y <;> rw [hd] at h
        · cases h
        · simp only [cond_true, Option.some.injEq] at h
          subst h
          obtain ⟨a1, a2, a3⟩ := ltX_ok hW ht hd
          show ltB (evF V x) (evF V y) = true
          unfold ltB; rw [a2, a3]; simp; omega
      · simp only [cond_true, Option.some.injEq] at h
        subst h
        obtain ⟨a1, a2, a3⟩ := ltX_ok hW ht hc
        show ltB (evF V x) (evF V y) = false
        unfold ltB; rw [a2, a3]; simp; omega
    · cases h
def Gam.bd (l : List (E × Bool)) (t : Nms) (TS : TrS) (N : List E) (QE : QuE) : Gam := ⟨l, bdD t (triS (TS.map fun x => (x.1.1, x.2.1, x.2.2)) N QE exD), some (nmT t)⟩
theorem gam_bd {V : Val} (hV : StdV V) {base : Nat} {t : Nms} (hW : IvV (tabV V base t)) (h : tabGood base t = true) {l : List (E × Bool)} (hl : LOK (tabV V base t) l) {T : Tri} {TS : TrS} {N : List E} {Q : Qua} {QE : QuE} (hT : trisOK t [] T = true) (hE : tssOK t T TS = true) (hN : numsOK t N = true) (hQ : quasOK t [] Q = true) (hR : qesOK t Q QE = true) : GamOK (tabV V base t) (.bd l t TS N QE) :=
  ⟨hl, bdD_ok hW (tabV_ok V h) (triS_ok hW (tabV_ok V h) hT hE hN hQ hR (dok_exact (tabV_std hV))), nm_tab V h⟩
end Go.Proofs.Ytainodgbcpkipaa.Ex
