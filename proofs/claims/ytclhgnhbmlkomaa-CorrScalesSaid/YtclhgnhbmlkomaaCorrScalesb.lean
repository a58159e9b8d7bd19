/-
  'CorrScales': what is told of any floats that are neither great nor small; the greatest of their quotients.
-/
import Derived.Test.YtclhgnhbmlkomaaCorrScalesa
namespace Go.Proofs.Ytclhgnhbmlkomaa
open Go.RowKit Ex
open Ieee (double)

def scA (i : Nat) : E := .af 10 0 (.cf (.atf 0 i) .n0)
def scB (i : Nat) : E := .af 10 0 (.cf (.atf 1 i) .n0)
def scD (e : E) : E := .fb .mul (.lf 4611686018427387904) e
def scQ (i : Nat) : E := .fb .quo (scA i) (scB i)
def scR (i : Nat) : E := .fb .quo (.af 10 0 (.cf (scD (.atf 0 i)) .n0)) (scD (scB i))
def scH (i : Nat) : E := .fb .quo (scA i) (scD (scB i))
def scMax (q : Nat → E) : Nat → E
  | 0 => q 0
  | k + 1 => .tf (.fc .lss (scMax q k) (q (k + 1))) (q (k + 1)) (scMax q k)
def scBd (i : Nat) : List (E × Bool) := [(.fc .lss (scA i) (.lf 6103021453049119613), true), (.fc .lss (scB i) (.lf 6103021453049119613), true), (.fc .lss (.lf 3110860544497550640) (scB i), true), (.fc .lss (.lf 3110860544497550640) (scA i), true)]
def scAll (n : Nat) : List (E × Bool) := (List.range n).flatMap scBd
def scF1 (i : Nat) : List Cf := [([], .fc .eql (scQ i) (scQ i), true), ([], .fc .eql (scR i) (scR i), true), ([], .fc .eql (scH i) (scH i), true)]
def scF (k : Nat) : List Cf := ([], .fc .eql (scMax scR k) (scMax scQ k), true) :: ([], .fc .eql (scMax scH k) (.fb .quo (scMax scQ k) (.lf 4611686018427387904)), true) :: (List.range (k + 1)).flatMap scF1

theorem sc_md {x y : Nat} (hx : x = canon y % p63) (h1 : ltB x 6103021453049119613 = true) (h2 : ltB 3110860544497550640 x = true) : Md x ∧ isN y = false ∧ y % p63 = x := by
  have hp : x < p63 := by rw [hx]; exact Nat.mod_lt _ (by decide)
  have nx : isN x = false := by
    unfold ltB at h1
    cases h : isN x
    · rfl
    · rw [h] at h1; simp at h1
  have e1 : isN 6103021453049119613 = false := by decide
  have e2 : isN 3110860544497550640 = false := by decide
  have k1 : key 6103021453049119613 = 6103021453049119613 := by decide
  have k2 : key 3110860544497550640 = 3110860544497550640 := by decide
  have kx := (ck_key hp).1
  unfold ltB at h1 h2
  rw [nx, e1, kx, k1] at h1
  rw [nx, e2, kx, k2] at h2
  simp at h1 h2
  have ny : isN y = false := by
    cases h : isN y
    · rfl
    · have : isN (canon y) = true := by rw [isN_canon, h]
      unfold isN at this nx
      rw [hx, Nat.mod_mod] at nx
      rw [nx] at this; cases this
  refine ⟨⟨show 3110860544497550640 < x by omega, show x < 6103021453049119613 by omega⟩, ny, ?_⟩
  rw [hx, canon_num ny]
theorem sc_Uhi : U ckHi < 2 ^ (ckE + 400) := by decide +kernel
theorem sc_is2 : Is 4611686018427387904 1 1 := by
  have h := is_ofInt (n := 2) (by decide) (by decide)
  have e : floatOfInt .f64 2 = 4611686018427387904 := by decide +kernel
  rw [e] at h
  obtain ⟨h1, h2, -, h4⟩ := h
  exact ⟨h1, h2, by decide, by rw [h4]; decide +kernel⟩
theorem sc_self {x : Nat} (hx : x < 18446744073709551616) (hf : x % p63 < infR) : Is x (V x) (-1074) := by
  refine ⟨hx, hf, by decide, ?_⟩
  rw [show ((-1074 : Int) + 1074).toNat = 0 by decide, Nat.pow_zero]; simp
/-- Twice such a number, its size: a binade more. -/
theorem sc_dbl {x y : Nat} (hx : Md x) (hy : y < 18446744073709551616) (h : y % p63 = x) : canon (cop .mul 4611686018427387904 y) % p63 = x + p52 ∧ (y < p63 → cop .mul 4611686018427387904 y = x + p52) := by
  have e2 : infR = 9218868437227405312 := rfl
  have e52 : p52 = 4503599627370496 := rfl
  have e63 : p63 = 9223372036854775808 := rfl
  have el : ckLo = 3110860544497550640 := rfl
  have eh : ckHi = 6103021453049119613 := rfl
  have x1 := hx.lo
  have x2 := hx.hi
  have hs := sc_self hy (by rw [h]; exact hx.inf)
  have hu : U x < 2 ^ (ckE + 400) := Nat.lt_of_le_of_lt (U_le (Nat.le_of_lt x2)) sc_Uhi
  have hV : (V y).natAbs = U x := by
    unfold V sgd
    rw [h]
    cases neg y <;> simp
  have hf : Fits (1 * V y) (1 + -1074) := by
    refine fits_of (ckE + 400) 1000 ?_ (by decide) (by decide)
    rw [Int.one_mul, hV]; exact hu
  obtain ⟨r, e, hr⟩ := is_mul sc_is2 hs (by decide) hf
  rw [Int.one_mul, hs.self] at hr
  have hc : cop .mul 4611686018427387904 y = r := by
    have : cop .mul 4611686018427387904 y = canon r := by unfold cop; rw [show floatBits .mul .f64 4611686018427387904 y = some r from e]
    rw [this, canon_num hr.num]
  have ha := is_abs hr
  have hlt : r % 9223372036854775808 < 9223372036854775808 := Nat.mod_lt _ (by decide)
  have hU : U (r % 9223372036854775808) = U (x + p52) := by
    have hv := ha.2.2.2
    rw [ck_V (x := r % 9223372036854775808) hlt, hV, show ((1 : Int) + -1074 + 1074).toNat = 1 by decide, Nat.pow_one] at hv
    rw [U_binade (by omega)]
    omega
  have hr2 : r % 9223372036854775808 = x + p52 := U_inj hU
  rw [hc, canon_num hr.num]
  refine ⟨hr2, fun hy' => ?_⟩
  have ny := (ck_key hy').2.1
  have nr : neg r = false := by
    have hv := hr.2.2.2
    cases hn : neg r
    · rfl
    · exfalso
      have vy := ck_V hy'
      have p : 0 < U x := Nat.lt_of_lt_of_le (by decide) (U_le (show 1 ≤ x by omega))
      rw [Nat.mod_eq_of_lt hy'] at h
      subst h
      rw [vy] at hv
      have vr : V r = -((U (r % p63) : Nat) : Int) := by unfold V sgd; rw [hn]; rfl
      rw [vr, show ((1 : Int) + -1074 + 1074).toNat = 1 by decide, Nat.pow_one] at hv
      omega
  have hl := (neg_false hr.1 nr).1
  rw [← hr2]
  exact (Nat.mod_eq_of_lt hl).symm
structure ScV (V : Val) (i : Nat) (r : Nat) : Prop where
  lo : 2 * p52 < r
  hi : r < infR
  vq : evF V (scQ i) = r
  vr : evF V (scR i) = r
  vh : evF V (scH i) + p52 = r
theorem sc_ev {V : Val} (hV : StdV V) (ha : ∀ i, floatAt (V.arr 0) i < 18446744073709551616) {i : Nat} (hb : ∀ c, c ∈ scBd i → evB V c.1 = c.2) : ∃ r, ScV V i r := by
  have abs : ∀ e : E, evF V (.af 10 0 (.cf e .n0)) = canon (evF V e) % p63 := fun e => by simp [evF, evS, hV.f, stdF]
  have h1 : ltB (evF V (scA i)) 6103021453049119613 = true := hb (.fc .lss (scA i) (.lf 6103021453049119613), true) (by simp [scBd])
  have h2 : ltB (evF V (scB i)) 6103021453049119613 = true := hb (.fc .lss (scB i) (.lf 6103021453049119613), true) (by simp [scBd])
  have h3 : ltB 3110860544497550640 (evF V (scB i)) = true := hb (.fc .lss (.lf 3110860544497550640) (scB i), true) (by simp [scBd])
  have h4 : ltB 3110860544497550640 (evF V (scA i)) = true := hb (.fc .lss (.lf 3110860544497550640) (scA i), true) (by simp [scBd])
  obtain ⟨mx, -, ex⟩ := sc_md (abs (.atf 0 i)) h1 h4
  obtain ⟨my, -, -⟩ := sc_md (abs (.atf 1 i)) h2 h3
  obtain ⟨r, r1, r2, r3, r4, r5⟩ := ck_all mx my
  have yp : evF V (scB i) < p63 := by rw [scB, abs]; exact Nat.mod_lt _ (by decide)
  have dy : evF V (scD (scB i)) = evF V (scB i) + p52 := (sc_dbl my (Nat.lt_trans yp (by decide)) (Nat.mod_eq_of_lt yp)).2 yp
  have dx : evF V (.af 10 0 (.cf (scD (.atf 0 i)) .n0)) = evF V (scA i) + p52 := by
    rw [abs]
    exact (sc_dbl mx (ha i) ex).1
  refine ⟨r, r1, r2, r3, ?_, ?_⟩
  · show cop .quo (evF V (.af 10 0 (.cf (scD (.atf 0 i)) .n0))) (evF V (scD (scB i))) = r
    rw [dx, dy]; exact r4
  · show cop .quo (evF V (scA i)) (evF V (scD (scB i))) + p52 = r
    rw [dy]; exact r5
theorem sc_lt {a b : Nat} (ha : a ≤ infR) (hb : b ≤ infR) : ltB a b = decide (a < b) := by
  have e2 : infR = 9218868437227405312 := rfl
  have e63 : p63 = 9223372036854775808 := rfl
  unfold ltB
  rw [ck_num ha, ck_num hb, (ck_key (x := a) (by omega)).1, (ck_key (x := b) (by omega)).1]
  simp
theorem sc_top {V : Val} : ∀ k : Nat, (∀ i, i ≤ k → ∃ r, ScV V i r) → ∃ g, 2 * p52 < g ∧ g < infR ∧ evF V (scMax scQ k) = g ∧ evF V (scMax scR k) = g ∧ evF V (scMax scH k) + p52 = g
  | 0, h => by
    obtain ⟨r, hr⟩ := h 0 (Nat.le_refl _)
    exact ⟨r, hr.lo, hr.hi, hr.vq, hr.vr, hr.vh⟩
  | k + 1, h => by
    obtain ⟨g, g1, g2, g3, g4, g5⟩ := sc_top k fun i hi => h i (by omega)
    obtain ⟨r, hr⟩ := h (k + 1) (Nat.le_refl _)
    have r2 := hr.hi
    have r5 := hr.vh
    have m : ∀ q : Nat → E, evF V (scMax q (k + 1)) = bif ltB (evF V (scMax q k)) (evF V (q (k + 1))) then evF V (q (k + 1)) else evF V (scMax q k) := fun q => rfl
    have l1 := sc_lt (a := g) (b := r) (by omega) (by omega)
    have l2 := sc_lt (a := evF V (scMax scH k)) (b := evF V (scH (k + 1))) (by omega) (by omega)
    have l3 : decide (evF V (scMax scH k) < evF V (scH (k + 1))) = decide (g < r) := by
      by_cases hgr : g < r
      · rw [decide_eq_true hgr, decide_eq_true (by omega)]
      · rw [decide_eq_false hgr, decide_eq_false (by omega)]
    have mq := m scQ
    have mr := m scR
    have mh := m scH
    rw [g3, hr.vq, l1] at mq
    rw [g4, hr.vr, l1] at mr
    rw [l2, l3] at mh
    cases hd : decide (g < r) <;> rw [hd] at mq mr mh
    · exact ⟨g, g1, g2, mq, mr, by rw [mh]; exact g5⟩
    · exact ⟨r, hr.lo, hr.hi, mq, mr, by rw [mh]; exact hr.vh⟩
theorem sc_eqB {x : Nat} (h : x ≤ infR) : eqB x x = true := by rw [eqB_self, ck_num h]; rfl
theorem sc_ok {V : Val} {k : Nat} (h : ∀ i, i ≤ k → ∃ r, ScV V i r) : CfOK V (scF k) := by
  obtain ⟨g, g1, g2, g3, g4, g5⟩ := sc_top k h
  intro f hf _
  unfold scF at hf
  rcases List.mem_cons.1 hf with rfl | hf
  · show eqB (evF V (scMax scR k)) (evF V (scMax scQ k)) = true
    rw [g3, g4]; exact sc_eqB (by omega)
  rcases List.mem_cons.1 hf with rfl | hf
  · show eqB (evF V (scMax scH k)) (cop .quo (evF V (scMax scQ k)) 4611686018427387904) = true
    have := ck_half g1 g2
    rw [g3, show cop .quo g 4611686018427387904 = evF V (scMax scH k) by omega]
    exact sc_eqB (by omega)
  obtain ⟨i, hi, hf⟩ := List.mem_flatMap.1 hf
  obtain ⟨r, hr⟩ := h i (by have := List.mem_range.1 hi; omega)
  have r2 := hr.hi
  have r5 := hr.vh
  simp only [scF1, List.mem_cons, List.not_mem_nil, or_false] at hf
  rcases hf with rfl | rfl | rfl
  · show eqB (evF V (scQ i)) (evF V (scQ i)) = true
    exact sc_eqB (by rw [hr.vq]; omega)
  · show eqB (evF V (scR i)) (evF V (scR i)) = true
    exact sc_eqB (by rw [hr.vr]; omega)
  · show eqB (evF V (scH i)) (evF V (scH i)) = true
    exact sc_eqB (by omega)

/-- How long both are: the one that is no longer so long, the other as long at least. -/
def scLens (n : Nat) (c : Bool) : List (E × Bool) := (.ic .lss (.vl 1) (.vl 0), c) :: (lenL (bif c then 1 else 0) n 12 ++ match n with
  | 0 => []
  | m + 1 => [(.ic .lss (.li m) (.vl (bif c then 0 else 1)), true)])
def scNot (n : Nat) : List Cf := match (scAll n).reverse with
  | [] => []
  | (e, b) :: r => [(r.reverse, e, !b)]
noncomputable def scRun (n : Nat) (c all : Bool) : Bool := drive 400 (fun g => xcall Try.prog (ctrOf (ctrS [])) g 1000000 100 13 (svs 0 [.g, .g]) .nil 10)
  ⟨scLens n c ++ (bif all then scAll n else []), cfD (bif all then (match n with | 0 => [] | k + 1 => scF k) else scNot n) exD, none⟩
/-- The first of all bounds that does not hold. -/
def scBad (k : Nat) : List (E × Bool) := match (scAll 12)[k]? with
  | some (e, b) => (e, !b) :: (scAll 12).take k
  | none => []
def scBadL (k : Nat) (c : Bool) : List (E × Bool) := (.ic .lss (.vl 1) (.vl 0), c) :: (.ic .lss (.li (k / 4 : Nat)) (.vl 0), true) :: (.ic .lss (.li (k / 4 : Nat)) (.vl 1), true) :: scBad k
noncomputable def scRunB (k : Nat) (c : Bool) : Bool := drive 400 (fun g => xcall Try.prog (ctrOf (ctrS [])) g 1000000 100 13 (svs 0 [.g, .g]) .nil 10) ⟨scBadL k c, exD, none⟩
end Go.Proofs.Ytclhgnhbmlkomaa
