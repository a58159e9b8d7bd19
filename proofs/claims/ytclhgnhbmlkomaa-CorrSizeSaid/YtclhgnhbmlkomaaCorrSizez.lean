/-
  'CorrSize': whatever it is given: quotients of small whole numbers; the greatest of them.
-/
import Derived.Test.YtclhgnhbmlkomaaCsb0
import Derived.Test.YtclhgnhbmlkomaaCsb1
import Derived.Test.YtclhgnhbmlkomaaCsb2
import Derived.Test.YtclhgnhbmlkomaaGm
namespace Go.Proofs.Ytclhgnhbmlkomaa
open Go.RowKit Ex

def cqTwo : Nat := 4611686018427387904
def cqX (i : Nat) : E := .i2f (.ib .sub .i64 (.ai 9 0 (.ci (.at 0 i) (.ci (.li 2001) .n0))) (.li 1000))
def cqW (i : Nat) : E := .i2f (.ti (.ic .lss (.li i) (.vl 1)) (.ib .add .i64 (.li 1) (.ai 9 0 (.ci (.at 1 i) (.ci (.li 50) .n0)))) (.li 1))
def cqQ (i : Nat) : E := .fb .quo (.af 10 0 (.cf (cqX i) .n0)) (cqW i)
def cqR (i : Nat) : E := .fb .quo (.af 10 0 (.cf (.fb .mul (.lf 4611686018427387904) (cqX i)) .n0)) (cqW i)
def cqG : Nat → E
  | 0 => cqQ 0
  | k + 1 => .tf (.fc .lss (cqG k) (cqQ (k + 1))) (cqQ (k + 1)) (cqG k)
def cqH : Nat → E
  | 0 => cqR 0
  | k + 1 => .tf (.fc .lss (cqH k) (cqR (k + 1))) (cqR (k + 1)) (cqH k)
def cqF1 (k i : Nat) : List Cf := [([], .fc .eql (cqQ i) (cqQ i), true), ([], .fc .eql (cqR i) (cqR i), true), ([], .fc .leq (cqQ i) (cqG k), true)]
def cqF (k : Nat) : List Cf := ([], .fc .eql (cqH k) (.fb .mul (.lf 4611686018427387904) (cqG k)), true) :: ((List.range k).map fun i => (.fc .eql (cqQ i) (cqG k), false), .fc .eql (cqQ k) (cqG k), true) :: (List.range (k + 1)).flatMap (cqF1 k)

theorem cq_row {a n : Nat} (h : csRow a = true) (h1 : a ≤ n) (h2 : n < a + 25) {w : Nat} (g1 : 1 ≤ w) (g2 : w ≤ 50) : csChk n w = true := by
  have := List.all_eq_true.1 (List.all_eq_true.1 h (n - a) (List.mem_range.2 (by omega))) (w - 1) (List.mem_range.2 (by omega))
  rw [show a + (n - a) = n by omega, show w - 1 + 1 = w by omega] at this
  exact this
theorem cq_chk {n w : Nat} (hn : n ≤ 1000) (g1 : 1 ≤ w) (g2 : w ≤ 50) : csChk n w = true := by
  have key : ∀ k, k ≤ 40 → csRow (25 * k) = true := fun k hk => by
    have : k = 0 ∨ k = 1 ∨ k = 2 ∨ k = 3 ∨ k = 4 ∨ k = 5 ∨ k = 6 ∨ k = 7 ∨ k = 8 ∨ k = 9 ∨ k = 10 ∨ k = 11 ∨ k = 12 ∨ k = 13 ∨ k = 14 ∨ k = 15 ∨ k = 16 ∨ k = 17 ∨ k = 18 ∨ k = 19 ∨ k = 20 ∨ k = 21 ∨ k = 22 ∨ k = 23 ∨ k = 24 ∨ k = 25 ∨ k = 26 ∨ k = 27 ∨ k = 28 ∨ k = 29 ∨ k = 30 ∨ k = 31 ∨ k = 32 ∨ k = 33 ∨ k = 34 ∨ k = 35 ∨ k = 36 ∨ k = 37 ∨ k = 38 ∨ k = 39 ∨ k = 40 := by omega
    rcases this with rfl | rfl | rfl | rfl | rfl | rfl | rfl | rfl | rfl | rfl | rfl | rfl | rfl | rfl | rfl | rfl | rfl | rfl | rfl | rfl | rfl | rfl | rfl | rfl | rfl | rfl | rfl | rfl | rfl | rfl | rfl | rfl | rfl | rfl | rfl | rfl | rfl | rfl | rfl | rfl | rfl
    · exact csRow_0
    · exact csRow_25
    · exact csRow_50
    · exact csRow_75
    · exact csRow_100
    · exact csRow_125
    · exact csRow_150
    · exact csRow_175
    · exact csRow_200
    · exact csRow_225
    · exact csRow_250
    · exact csRow_275
    · exact csRow_300
    · exact csRow_325
    · exact csRow_350
    · exact csRow_375
    · exact csRow_400
    · exact csRow_425
    · exact csRow_450
    · exact csRow_475
    · exact csRow_500
    · exact csRow_525
    · exact csRow_550
    · exact csRow_575
    · exact csRow_600
    · exact csRow_625
    · exact csRow_650
    · exact csRow_675
    · exact csRow_700
    · exact csRow_725
    · exact csRow_750
    · exact csRow_775
    · exact csRow_800
    · exact csRow_825
    · exact csRow_850
    · exact csRow_875
    · exact csRow_900
    · exact csRow_925
    · exact csRow_950
    · exact csRow_975
    · exact csRow_1000
  exact cq_row (key (n / 25) (by omega)) (by omega) (by omega) g1 g2
theorem cq_abs {n : Nat} (hn : n ≤ 1000) : csAbs n = true := List.all_eq_true.1 csAbs_all n (List.mem_range.2 (by omega))
theorem cq_int (n : Nat) (hn : n ≤ 1000) : Is (i2fV n) n 0 := is_ofInt (by omega) (by omega)
theorem cq_leB {x y : Nat} (h1 : isN x = false) (h2 : isN y = false) : leB x y = decide (key x ≤ key y) := by unfold leB; rw [h1, h2]; rfl
theorem cq_self {x : Nat} (hx : x < 18446744073709551616) (hf : x % p63 < infR) : Is x (V x) (-1074) := by
  refine ⟨hx, hf, by decide, ?_⟩
  rw [show ((-1074 : Int) + 1074).toNat = 0 by decide, Nat.pow_zero]; simp
theorem cq_at {a : Nat} {m k l : Int} (h : Is a m k) (hk : k = l) : Is a m l := by rw [← hk]; exact h
theorem cq_kpos {z : Nat} (h1 : 1 ≤ z) (h2 : z ≤ 1000) : 0 < key (i2fV z) := by
  have hz := cq_int z h2
  have h0 : Is 0 0 0 := by
    have h := is_ofInt (n := 0) (by decide) (by decide)
    have e : floatOfInt .f64 0 = 0 := by decide +kernel
    rw [e] at h; exact h
  have hle := is_le hz h0
  rw [cq_leB hz.num h0.num, show key 0 = 0 by decide, decide_eq_false (by omega : ¬ ((z : Int) ≤ 0))] at hle
  have := of_decide_eq_false hle
  omega
/-- By small whole numbers quotients grow as they should. -/
theorem cq_mono {n w n' w' : Nat} (hn : n ≤ 1000) (hn' : n' ≤ 1000) (g1 : 1 ≤ w) (g2 : w ≤ 1000) (k1 : 1 ≤ w') (k2 : w' ≤ 1000) (h : n * w' ≤ n' * w) : key (csQ n w) ≤ key (csQ n' w') := by
  have hx := cq_int n hn
  have hy := cq_int w g2
  have hx' := cq_int n' hn'
  have hy' := cq_int w' k2
  refine quo_mono hx.2.1 hy.2.1 hx'.2.1 hy'.2.1 (.inl ⟨cq_kpos g1 g2, cq_kpos k1 k2⟩) ?_
  rw [hx.2.2.2, hy.2.2.2, hx'.2.2.2, hy'.2.2.2]
  generalize ((2 ^ ((0 : Int) + 1074).toNat : Nat) : Int) = T
  have sw : ∀ a b : Int, a * T * (b * T) = (a * b) * (T * T) := fun a b => by
    rw [Int.mul_assoc, ← Int.mul_assoc T, Int.mul_comm T, Int.mul_assoc, ← Int.mul_assoc]
  rw [sw, sw]
  have hT : 0 ≤ T * T := by
    rcases Int.le_total 0 T with h | h
    · exact Int.mul_nonneg h h
    · exact Int.mul_nonneg_of_nonpos_of_nonpos h h
  have hc : (n : Int) * (w' : Int) ≤ (n' : Int) * (w : Int) := by
    rw [← Int.natCast_mul, ← Int.natCast_mul]; exact Int.ofNat_le.2 h
  exact Int.mul_le_mul_of_nonneg_right hc hT
theorem cq_fin {n w : Nat} (hn : n ≤ 1000) (g1 : 1 ≤ w) (g2 : w ≤ 50) : csQ n w % p63 < infR ∧ csQ n w < 18446744073709551616 ∧ cop .quo (cop .mul 4611686018427387904 (i2fV n)) (i2fV w) = cop .mul 4611686018427387904 (csQ n w) := by
  have hc := cq_chk hn g1 g2
  unfold csChk at hc
  simp only [Bool.and_eq_true, decide_eq_true_eq] at hc
  exact ⟨hc.2.1, hc.2.2, hc.1⟩
/-- A small number: twice it there is. -/
structure Sm (q : Nat) : Prop where
  fin : q % p63 < infR
  lt : q < 18446744073709551616
  fit : Fits (1 * V q) (1 + -1074)
def cqE : Nat := 1074
theorem cq_pow (e : Nat) : 1000 * 2 ^ e < 2 ^ (11 + e) := by
  rw [Nat.pow_add]
  exact Nat.mul_lt_mul_of_pos_right (by decide) (Nat.two_pow_pos _)
theorem cq_sm {n w : Nat} (hn : n ≤ 1000) (g1 : 1 ≤ w) (g2 : w ≤ 50) : Sm (csQ n w) := by
  obtain ⟨f1, f2, -⟩ := cq_fin hn g1 g2
  refine ⟨f1, f2, ?_⟩
  have hq := cq_self f2 f1
  have e0 : csQ 0 1 = 0 := by decide +kernel
  have e1 : csQ 1000 1 = i2fV (1000 : Nat) := by decide +kernel
  have k0 := cq_mono (n := 0) (w := 1) (n' := n) (w' := w) (by omega) hn (by omega) (by omega) g1 (by omega) (by omega)
  have k1 := cq_mono (n := n) (w := w) (n' := 1000) (w' := 1) hn (by omega) g1 (by omega) (by omega) (by omega) (by omega)
  rw [e0] at k0
  rw [e1] at k1
  have h0 : Is 0 0 (-1074) := by
    have := cq_self (x := 0) (by decide) (by decide)
    have e : V 0 = 0 := by decide
    rw [e] at this; exact this
  have hX := cq_int 1000 (by omega)
  have hD := cq_at (hX.down cqE (by decide)) (show (0 : Int) - (cqE : Nat) = -1074 by decide)
  have l0 := is_le h0 hq
  have l1 := is_le hq hD
  rw [cq_leB h0.num hq.num, decide_eq_true k0] at l0
  rw [cq_leB hq.num hX.num, decide_eq_true k1] at l1
  have l0 := of_decide_eq_true l0.symm
  have l1 := of_decide_eq_true l1.symm
  have hp := cq_pow cqE
  refine fits_of (11 + cqE) 1000 ?_ (by decide) (by decide)
  generalize (2 : Nat) ^ (11 + cqE) = B at hp ⊢
  generalize (2 : Nat) ^ cqE = T at l1 hp
  rw [Int.one_mul]
  have c : ((1000 : Nat) : Int) * (T : Int) = ((1000 * T : Nat) : Int) := by rw [Int.natCast_mul]
  rw [c] at l1
  omega
theorem cq_is2 : Is 4611686018427387904 1 1 := by
  have h := is_ofInt (n := 2) (by decide) (by decide)
  have e : floatOfInt .f64 2 = 4611686018427387904 := by decide +kernel
  rw [e] at h
  obtain ⟨h1, h2, -, h4⟩ := h
  exact ⟨h1, h2, by decide, by rw [h4]; decide +kernel⟩
theorem cq_dbl {q : Nat} (h : Sm q) : Is (cop .mul 4611686018427387904 q) (V q) (1 + -1074) := by
  have hq := cq_self h.lt h.fin
  obtain ⟨r, e, hr⟩ := is_mul cq_is2 hq (by decide) h.fit
  have : cop .mul 4611686018427387904 q = canon r := by unfold cop; rw [show floatBits .mul .f64 4611686018427387904 q = some r from e]
  rw [this, canon_num hr.num]
  rw [Int.one_mul, hq.self] at hr
  exact hr
theorem cq_lt {a b : Nat} (ha : Sm a) (hb : Sm b) : ltB (cop .mul 4611686018427387904 a) (cop .mul 4611686018427387904 b) = ltB a b := by
  have h1 := is_cmp (cq_dbl ha) (cq_dbl hb) .lss
  have h2 := is_cmp (cq_self ha.lt ha.fin) (cq_self hb.lt hb.fin) .lss
  have h1 : ltB (cop .mul 4611686018427387904 a) (cop .mul 4611686018427387904 b) = _ := h1
  have h2 : ltB a b = _ := h2
  rw [h1, h2]

theorem cq_ev {V : Val} (hV : StdV V) (i : Nat) : ∃ q : Nat, Sm q ∧ evF V (cqQ i) = q ∧ evF V (cqR i) = cop .mul 4611686018427387904 q := by
  have h1 : ∀ (x : E) (n : Int), evI V (.ai 9 0 (.ci x (.ci (.li n) .n0))) = evI V x % n := fun x n => by simp [evI, evS, hV.i, stdI]
  have p := Int.emod_nonneg (evI V (.at 0 i)) (show (2001 : Int) ≠ 0 by decide)
  have r := Int.emod_lt_of_pos (evI V (.at 0 i)) (show (0 : Int) < 2001 by decide)
  have p2 := Int.emod_nonneg (evI V (.at 1 i)) (show (50 : Int) ≠ 0 by decide)
  have r2 := Int.emod_lt_of_pos (evI V (.at 1 i)) (show (0 : Int) < 50 by decide)
  have eX : evI V (.ib .sub .i64 (.ai 9 0 (.ci (.at 0 i) (.ci (.li 2001) .n0))) (.li 1000)) = evI V (.at 0 i) % 2001 - 1000 := by
    show wrapF .i64 (evI V (.ai 9 0 (.ci (.at 0 i) (.ci (.li 2001) .n0))) - 1000) = _
    rw [h1]; exact wrap_in (by omega) (by omega)
  obtain ⟨n, hn, hs⟩ : ∃ n : Nat, n ≤ 1000 ∧ (evI V (.at 0 i) % 2001 - 1000 = (n : Int) ∨ evI V (.at 0 i) % 2001 - 1000 = -(n : Int)) :=
    ⟨(evI V (.at 0 i) % 2001 - 1000).natAbs, by omega, by omega⟩
  obtain ⟨w, w1, w2, hw⟩ : ∃ w : Nat, 1 ≤ w ∧ w ≤ 50 ∧ evI V (.ti (.ic .lss (.li i) (.vl 1)) (.ib .add .i64 (.li 1) (.ai 9 0 (.ci (.at 1 i) (.ci (.li 50) .n0)))) (.li 1)) = (w : Int) := by
    have e : evI V (.ib .add .i64 (.li 1) (.ai 9 0 (.ci (.at 1 i) (.ci (.li 50) .n0)))) = 1 + evI V (.at 1 i) % 50 := by
      show wrapF .i64 (1 + evI V (.ai 9 0 (.ci (.at 1 i) (.ci (.li 50) .n0)))) = _
      rw [h1]; exact wrap_in (by omega) (by omega)
    cases hb : evB V (.ic .lss (.li i) (.vl 1))
    · refine ⟨1, by decide, by decide, ?_⟩
      show (bif evB V (.ic .lss (.li i) (.vl 1)) then _ else (1 : Int)) = _
      rw [hb]; rfl
    · refine ⟨(1 + evI V (.at 1 i) % 50).toNat, by omega, by omega, ?_⟩
      show (bif evB V (.ic .lss (.li i) (.vl 1)) then evI V (.ib .add .i64 (.li 1) (.ai 9 0 (.ci (.at 1 i) (.ci (.li 50) .n0)))) else (1 : Int)) = _
      rw [hb, e]
      show 1 + evI V (.at 1 i) % 50 = _
      omega
  have ha := cq_abs hn
  unfold csAbs at ha
  simp only [Bool.and_eq_true, decide_eq_true_eq] at ha
  obtain ⟨-, -, f3⟩ := cq_fin hn w1 w2
  have abs : ∀ e : E, evF V (.af 10 0 (.cf e .n0)) = canon (evF V e) % p63 := fun e => by simp [evF, evS, hV.f, stdF]
  have x1 : evF V (.af 10 0 (.cf (cqX i) .n0)) = i2fV n := by
    rw [abs]
    show canon (i2fV (evI V (.ib .sub .i64 (.ai 9 0 (.ci (.at 0 i) (.ci (.li 2001) .n0))) (.li 1000)))) % p63 = _
    rw [eX]
    rcases hs with hs | hs <;> rw [hs]
    · exact ha.1.2
    · exact ha.1.1
  have x2 : evF V (.af 10 0 (.cf (.fb .mul (.lf 4611686018427387904) (cqX i)) .n0)) = cop .mul 4611686018427387904 (i2fV n) := by
    rw [abs]
    show canon (cop .mul 4611686018427387904 (i2fV (evI V (.ib .sub .i64 (.ai 9 0 (.ci (.at 0 i) (.ci (.li 2001) .n0))) (.li 1000))))) % p63 = _
    rw [eX]
    rcases hs with hs | hs <;> rw [hs]
    · exact ha.2.2
    · exact ha.2.1
  have xw : evF V (cqW i) = i2fV w := by
    show i2fV (evI V (.ti (.ic .lss (.li i) (.vl 1)) (.ib .add .i64 (.li 1) (.ai 9 0 (.ci (.at 1 i) (.ci (.li 50) .n0)))) (.li 1))) = _
    rw [hw]
  refine ⟨csQ n w, cq_sm hn w1 w2, ?_, ?_⟩
  · show cop .quo (evF V (.af 10 0 (.cf (cqX i) .n0))) (evF V (cqW i)) = _
    rw [x1, xw]; rfl
  · show cop .quo (evF V (.af 10 0 (.cf (.fb .mul (.lf 4611686018427387904) (cqX i)) .n0))) (evF V (cqW i)) = _
    rw [x2, xw, f3]
theorem sm_num {q : Nat} (h : Sm q) : isN q = false := isN_of_le (Nat.le_of_lt h.fin)
/-- The greatest so far: one of them, no less than each; of numbers twice as great twice it. -/
theorem cq_top {V : Val} (hV : StdV V) : ∀ k : Nat, ∃ g : Nat, Sm g ∧ evF V (cqG k) = g ∧ evF V (cqH k) = cop .mul 4611686018427387904 g ∧ (∃ i, i ≤ k ∧ evF V (cqQ i) = g) ∧ ∀ i, i ≤ k → leB (evF V (cqQ i)) g = true
  | 0 => by
    obtain ⟨q, hq, e1, e2⟩ := cq_ev hV 0
    refine ⟨q, hq, e1, e2, ⟨0, Nat.le_refl _, e1⟩, fun i hi => ?_⟩
    obtain rfl : i = 0 := by omega
    rw [e1, cq_leB (sm_num hq) (sm_num hq)]
    exact decide_eq_true (Int.le_refl _)
  | k + 1 => by
    obtain ⟨g, hg, e1, e2, ⟨j, hj, ej⟩, h5⟩ := cq_top hV k
    obtain ⟨q, hq, f1, f2⟩ := cq_ev hV (k + 1)
    have eG : evF V (cqG (k + 1)) = bif ltB g q then q else g := by
      show (bif ltB (evF V (cqG k)) (evF V (cqQ (k + 1))) then evF V (cqQ (k + 1)) else evF V (cqG k)) = _
      rw [e1, f1]
    have eH : evF V (cqH (k + 1)) = bif ltB g q then cop .mul 4611686018427387904 q else cop .mul 4611686018427387904 g := by
      show (bif ltB (evF V (cqH k)) (evF V (cqR (k + 1))) then evF V (cqR (k + 1)) else evF V (cqH k)) = _
      rw [e2, f2, cq_lt hg hq]
    have hl : ltB g q = decide (key g < key q) := by unfold ltB; rw [sm_num hg, sm_num hq]; rfl
    cases hc : ltB g q
    · rw [hc] at eG eH hl
      have hk := of_decide_eq_false hl.symm
      refine ⟨g, hg, eG, eH, ⟨j, by omega, ej⟩, fun i hi => ?_⟩
      rcases Nat.lt_or_ge i (k + 1) with hi' | hi'
      · exact h5 i (by omega)
      · obtain rfl : i = k + 1 := by omega
        rw [f1, cq_leB (sm_num hq) (sm_num hg)]
        exact decide_eq_true (by omega)
    · rw [hc] at eG eH hl
      have hk := of_decide_eq_true hl.symm
      refine ⟨q, hq, eG, eH, ⟨k + 1, Nat.le_refl _, f1⟩, fun i hi => ?_⟩
      rcases Nat.lt_or_ge i (k + 1) with hi' | hi'
      · have := h5 i (by omega)
        obtain ⟨u, hu, u1, -⟩ := cq_ev hV i
        rw [u1, cq_leB (sm_num hu) (sm_num hg)] at this
        have := of_decide_eq_true this
        rw [u1, cq_leB (sm_num hu) (sm_num hq)]
        exact decide_eq_true (by omega)
      · obtain rfl : i = k + 1 := by omega
        rw [f1, cq_leB (sm_num hq) (sm_num hq)]
        exact decide_eq_true (Int.le_refl _)
theorem cq_eqB {x : Nat} (h : isN x = false) : eqB x x = true := by rw [eqB_self, h]; rfl
theorem cq_ok {V : Val} (hV : StdV V) (k : Nat) : CfOK V (cqF k) := by
  obtain ⟨g, hg, e1, e2, ⟨j, hj, ej⟩, h5⟩ := cq_top hV k
  intro f hf hc
  unfold cqF at hf
  rcases List.mem_cons.1 hf with rfl | hf
  · show eqB (evF V (cqH k)) (cop .mul 4611686018427387904 (evF V (cqG k))) = true
    rw [e1, e2]
    exact cq_eqB (cq_dbl hg).num
  rcases List.mem_cons.1 hf with rfl | hf
  · show eqB (evF V (cqQ k)) (evF V (cqG k)) = true
    rcases Nat.lt_or_ge j k with hj' | hj'
    · have := hc (.fc .eql (cqQ j) (cqG k), false) (List.mem_map.2 ⟨j, List.mem_range.2 hj', rfl⟩)
      have : eqB (evF V (cqQ j)) (evF V (cqG k)) = false := this
      rw [ej, e1, cq_eqB (sm_num hg)] at this
      cases this
    · obtain rfl : j = k := by omega
      rw [ej, e1]
      exact cq_eqB (sm_num hg)
  obtain ⟨i, hi, hf⟩ := List.mem_flatMap.1 hf
  have hi : i ≤ k := by have := List.mem_range.1 hi; omega
  obtain ⟨q, hq, q1, q2⟩ := cq_ev hV i
  simp only [cqF1, List.mem_cons, List.not_mem_nil, or_false] at hf
  rcases hf with rfl | rfl | rfl
  · show eqB (evF V (cqQ i)) (evF V (cqQ i)) = true
    rw [q1]; exact cq_eqB (sm_num hq)
  · show eqB (evF V (cqR i)) (evF V (cqR i)) = true
    rw [q2]; exact cq_eqB (cq_dbl hq).num
  · show leB (evF V (cqQ i)) (evF V (cqG k)) = true
    rw [e1]; exact h5 i hi

def cqGam (L : Nat) : Gam := ⟨lenL 0 L 9 ++ [], cfD (match L with | 0 => [] | k + 1 => cqF k) exD, none⟩
noncomputable def cqRun (L : Nat) : Bool := drive 200 (fun g => xcall Try.prog (ctrOf (ctrS [])) g 1000000 100 5 (svs 0 [.q, .q]) .nil 10) (cqGam L)
set_option maxRecDepth 1000000 in
set_option maxHeartbeats 100000000 in
theorem cqRun0 : cqRun 0 = true := by kernel_rfl
set_option maxRecDepth 1000000 in
set_option maxHeartbeats 100000000 in
theorem cqRun1 : cqRun 1 = true := by kernel_rfl
set_option maxRecDepth 1000000 in
set_option maxHeartbeats 100000000 in
theorem cqRun2 : cqRun 2 = true := by kernel_rfl
set_option maxRecDepth 1000000 in
set_option maxHeartbeats 100000000 in
theorem cqRun3 : cqRun 3 = true := by kernel_rfl
set_option maxRecDepth 1000000 in
set_option maxHeartbeats 100000000 in
theorem cqRun4 : cqRun 4 = true := by kernel_rfl
set_option maxRecDepth 1000000 in
set_option maxHeartbeats 100000000 in
theorem cqRun5 : cqRun 5 = true := by kernel_rfl
set_option maxRecDepth 1000000 in
set_option maxHeartbeats 100000000 in
theorem cqRun6 : cqRun 6 = true := by kernel_rfl
set_option maxRecDepth 1000000 in
set_option maxHeartbeats 100000000 in
theorem cqRun7 : cqRun 7 = true := by kernel_rfl
set_option maxRecDepth 1000000 in
set_option maxHeartbeats 100000000 in
theorem cqRun8 : cqRun 8 = true := by kernel_rfl
set_option maxRecDepth 1000000 in
set_option maxHeartbeats 100000000 in
theorem cqRun9 : cqRun 9 = true := by kernel_rfl
theorem corrSize_any (v0 : Value) (zs0 : List Int) (v1 : Value) (zs1 : List Int) (w : World) (h0 : Ints w v0 zs0) (h1 : Ints w v1 zs1) :
    Calls Try.prog 5 #[v0, v1] w fun e w' => e = .returned (.bool true) ∧ Below w.heap.size w w' := by
  have hV : StdV (adV [.is zs0, .is zs1]) := adV_ok _
  obtain ⟨L, hL, h4⟩ := lenL_ok (((adV [.is zs0, .is zs1]).arr 0).size) 0 9
  have hT : StdV (tabV (adV [.is zs0, .is zs1]) 100 []) := tabV_std hV
  have hrun : cqRun L = true := by
    have hc : L = 0 ∨ L = 1 ∨ L = 2 ∨ L = 3 ∨ L = 4 ∨ L = 5 ∨ L = 6 ∨ L = 7 ∨ L = 8 ∨ L = 9 := by omega
    rcases hc with rfl | rfl | rfl | rfl | rfl | rfl | rfl | rfl | rfl | rfl
    · exact cqRun0
    · exact cqRun1
    · exact cqRun2
    · exact cqRun3
    · exact cqRun4
    · exact cqRun5
    · exact cqRun6
    · exact cqRun7
    · exact cqRun8
    · exact cqRun9
  refine run_driveT mixed namesAll (ds := [.is zs0, .is zs1]) (base := 100) (nx0 := 10) (k := 200) (fuel := 1000000) (n := 100) (by simp) (ctr := ctrOf (ctrS [])) (xf := fun _ _ _ => 0) (fun t => ctrS_ok (tabV_st (adV_ok _)) (fun _ _ _ h => by cases h)) (by simp) (vs := #[v0, v1]) ⟨h0, h1, trivial⟩ fun ks hk => ⟨[], cqGam L, ⟨lok_append (h4 _ rfl) lok_nil, cfD_ok (by
    cases L with
    | zero => exact fun _ h => by cases h
    | succ k => exact cq_ok hT k) (dok_exact hT), nm_none⟩, ?_⟩
  have hk : ks = [.q, .q] := by simpa [AD.kind, shapes, shapes1] using hk
  subst hk
  exact hrun
end Go.Proofs.Ytclhgnhbmlkomaa
