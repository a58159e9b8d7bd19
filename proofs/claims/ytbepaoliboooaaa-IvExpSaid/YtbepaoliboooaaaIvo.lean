/-
  From-tos of moderate numbers: what is told of them, as pairs: turned about, with all numbers, how far from 0.
-/
import Derived.Test.YtbepaoliboooaaaIvm
import Derived.Test.YtbepaoliboooaaaEnb
namespace Go.Proofs.Ytbepaoliboooaaa
open Ex
open Ieee (double)

abbrev NI : Nat := 18442240474082181120
abbrev PI : Nat := 9218868437227405312
theorem iv_inj {a b c d : Nat} (h : iv a b = iv c d) : a = c ∧ b = d := by
  unfold iv at h; simpa using h
theorem outP_num (p q : Nat) : isN (outP p q).1 = false ∧ isN (outP p q).2 = false := by
  obtain ⟨x, y, h, h1, h2⟩ := outI_num p q
  rw [outP_eq] at h
  obtain ⟨rfl, rfl⟩ := iv_inj h
  exact ⟨h1, h2⟩
theorem aroundP_num (a b c d : Nat) : isN (aroundP a b c d).1 = false ∧ isN (aroundP a b c d).2 = false := by
  obtain ⟨x, y, h, h1, h2⟩ := aroundI_num a b c d
  rw [aroundP_eq] at h
  obtain ⟨rfl, rfl⟩ := iv_inj h
  exact ⟨h1, h2⟩
theorem divP_num (a b c d : Nat) : isN (divP a b c d).1 = false ∧ isN (divP a b c d).2 = false := by
  unfold divP
  cases leB c 0 && leB 0 d
  · exact aroundP_num _ _ _ _
  · simp only [cond_true]; exact ⟨by decide, by decide⟩
theorem eqB_refl {x : Nat} (h : isN x = false) : eqB x x = true := by rw [eqB_self, h]; rfl

/-! ### Turned about -/
theorem addP_sym {a b c d : Nat} (h : Mid a b) (g : Mid c d) : addP a b c d = addP c d a b := by
  unfold addP; rw [add_sym h.fin.1 g.fin.1, add_sym h.fin.2.1 g.fin.2.1]
theorem mulP_sym {a b c d : Nat} (h : Mid a b) (g : Mid c d) : mulP a b c d = mulP c d a b := by
  have e := mulI_sym h g
  unfold mulI at e
  rw [aroundP_eq, aroundP_eq] at e
  obtain ⟨e1, e2⟩ := iv_inj e
  exact Prod.ext e1 e2
theorem subP_turn {a b c d : Nat} (h : Mid a b) (g : Mid c d) : eqB (subP a b c d).1 (cop .sub 0 (subP c d a b).2) = true ∧ eqB (subP a b c d).2 (cop .sub 0 (subP c d a b).1) = true := by
  obtain ⟨s1, s2, t1, t2, e1, e2, -, -, -, -, h1, h2⟩ := subI_turn h g
  rw [outP_eq] at e1 e2
  obtain ⟨rfl, rfl⟩ := iv_inj e1
  obtain ⟨rfl, rfl⟩ := iv_inj e2
  exact ⟨h1, h2⟩

/-! ### With all numbers -/
theorem ni_key : key NI = -(infR : Int) := by decide
theorem pi_key : key PI = infR := by decide
theorem key_fin {x : Nat} (h : x % p63 < infR) : key x ≠ infR ∧ key x ≠ -(infR : Int) ∧ isN x = false := by
  refine ⟨?_, ?_, isN_of_le (Nat.le_of_lt h)⟩ <;> (rw [key_eq]; unfold sgd; split <;> omega)
theorem is_ni {x : Nat} (hx : x < 18446744073709551616) (h : key x = -(infR : Int)) : x = NI := by
  rcases of_key hx (show NI < 18446744073709551616 by decide) (h.trans ni_key.symm) with e | ⟨-, e⟩
  · exact e
  · exact absurd e (by decide)
theorem is_pi {x : Nat} (hx : x < 18446744073709551616) (h : key x = infR) : x = PI := by
  rcases of_key hx (show PI < 18446744073709551616 by decide) (h.trans pi_key.symm) with e | ⟨-, e⟩
  · exact e
  · exact absurd e (by decide)
theorem add_ni {x : Nat} (h : x % p63 < infR) : cop .add x NI = NI ∧ cop .add NI x = NI := by
  obtain ⟨h1, h2, h3⟩ := key_fin h
  exact ⟨is_ni (cop_lt _ _ _) (add_inf (.inr ni_key) h1 (by decide) h3 (by decide)), is_ni (cop_lt _ _ _) (add_inf (.inl ni_key) (by decide) h1 (by decide) h3)⟩
theorem add_pi {x : Nat} (h : x % p63 < infR) : cop .add x PI = PI ∧ cop .add PI x = PI := by
  obtain ⟨h1, h2, h3⟩ := key_fin h
  exact ⟨is_pi (cop_lt _ _ _) (add_pinf (.inr pi_key) h2 (by decide) h3 (by decide)), is_pi (cop_lt _ _ _) (add_pinf (.inl pi_key) (by decide) h2 (by decide) h3)⟩
theorem fl_fin {x : Nat} (h : x % p63 < infR) : fl x % p63 < infR := by
  have := fl_key (y := x) (key_fin h).2.2
  refine fin_of_key (fl_isN (key_fin h).2.2) ?_ ?_ <;> rw [this] <;> have := key_fin h <;> omega
theorem whole_out : outP NI PI = (NI, PI) := by decide +kernel
theorem addP_whole {a b : Nat} (h : Mid a b) : addP a b NI PI = (NI, PI) := by
  unfold addP; rw [(add_ni h.fin.1).1, (add_pi h.fin.2.1).1, whole_out]
theorem subP_whole {a b : Nat} (h : Mid a b) : subP NI PI a b = (NI, PI) := by
  unfold subP
  rw [sub_add h.ends.2.1, sub_add h.ends.1, (add_ni (fl_fin h.fin.2.1)).2, (add_pi (fl_fin h.fin.1)).2, whole_out]
theorem mulP_whole : mulP NI PI NI PI = (NI, PI) := by decide +kernel
/-- An infinite one times, or by, one that is not 0. -/
theorem mul_infs {y : Nat} (h : y % p63 < infR) : (0 < key y → cop .mul NI y = NI ∧ cop .mul PI y = PI) ∧ (key y < 0 → cop .mul NI y = PI ∧ cop .mul PI y = NI) := by
  have ny := (key_fin h).2.2
  refine ⟨fun hp => ⟨is_ni (cop_lt _ _ _) (mul_below ny (.inl ⟨ni_key, hp⟩)).1, is_pi (cop_lt _ _ _) (mul_above ny (.inr ⟨pi_key, hp⟩)).1⟩, fun hn => ⟨is_pi (cop_lt _ _ _) (mul_above ny (.inl ⟨ni_key, hn⟩)).1, is_ni (cop_lt _ _ _) (mul_below ny (.inr ⟨pi_key, hn⟩)).1⟩⟩
theorem quo_infs {y : Nat} (h : y % p63 < infR) (_hk : key y ≠ 0) (s : Bool) : cop .quo (double.word s infR) y = double.word (s ^^ neg y) infR := by
  obtain ⟨m, p, e, -, -⟩ := read_fin h
  have hr : double.read (double.word s infR) = .infinity s := by
    have := read_inf (word_mod s (Nat.le_refl infR))
    rwa [word_neg s (Nat.le_refl _)] at this
  have : floatBits .quo .f64 (double.word s infR) y = some (double.word (s ^^ neg y) infR) := by
    show double.div _ _ = _
    unfold Ieee.Format.div
    rw [hr, e]
    rfl
  unfold cop; rw [this]; exact canon_num (word_isN _ (Nat.le_refl _))
theorem neg_of_key {y : Nat} : (0 < key y → neg y = false) ∧ (key y < 0 → neg y = true) := by
  rw [key_eq]; unfold sgd; cases neg y <;> simp <;> omega
theorem quo_infs' {y : Nat} (h : y % p63 < infR) (hk : key y ≠ 0) : (0 < key y → cop .quo NI y = NI ∧ cop .quo PI y = PI) ∧ (key y < 0 → cop .quo NI y = PI ∧ cop .quo PI y = NI) := by
  have e1 : double.word true infR = NI := by decide
  have e2 : double.word false infR = PI := by decide
  have q1 := quo_infs h hk true
  have q2 := quo_infs h hk false
  rw [e1] at q1; rw [e2] at q2
  refine ⟨fun hp => ?_, fun hn => ?_⟩
  · rw [neg_of_key.1 hp] at q1 q2; exact ⟨q1.trans e1, q2.trans e2⟩
  · rw [neg_of_key.2 hn] at q1 q2; exact ⟨q1.trans e2, q2.trans e1⟩
theorem around_infs : aroundP NI NI PI PI = (NI, PI) ∧ aroundP PI PI NI NI = (NI, PI) := by decide +kernel
/-- What does not hold 0. -/
theorem off_zero {a b : Nat} (h : Mid a b) (h0 : leB a 0 = true → leB 0 b = false) : (0 < key a ∧ 0 < key b) ∨ (key a < 0 ∧ key b < 0) := by
  obtain ⟨n1, n2, h3, -⟩ := h.ends
  have k0 : key 0 = 0 := by decide
  rw [leB_of n1 (by decide), leB_of (by decide) n2, k0] at h0
  simp only [decide_eq_true_eq, decide_eq_false_iff_not] at h0
  omega
theorem mulP_whole2 {a b : Nat} (h : Mid a b) (h0 : leB a 0 = true → leB 0 b = false) : mulP NI PI a b = (NI, PI) := by
  unfold mulP
  rcases off_zero h h0 with ⟨h1, h2⟩ | ⟨h1, h2⟩
  · rw [((mul_infs h.fin.1).1 h1).1, ((mul_infs h.fin.1).1 h1).2, ((mul_infs h.fin.2.1).1 h2).1, ((mul_infs h.fin.2.1).1 h2).2]
    exact around_infs.1
  · rw [((mul_infs h.fin.1).2 h1).1, ((mul_infs h.fin.1).2 h1).2, ((mul_infs h.fin.2.1).2 h2).1, ((mul_infs h.fin.2.1).2 h2).2]
    exact around_infs.2
theorem divP_whole2 {a b : Nat} (h : Mid a b) (h0 : leB a 0 = true → leB 0 b = false) : divP NI PI a b = (NI, PI) := by
  unfold divP
  have : (leB a 0 && leB 0 b) = false := by cases g : leB a 0 <;> simp; exact h0 g
  rw [this]
  simp only [cond_false]
  rcases off_zero h h0 with ⟨h1, h2⟩ | ⟨h1, h2⟩
  · rw [((quo_infs' h.fin.1 (by omega)).1 h1).1, ((quo_infs' h.fin.1 (by omega)).1 h1).2, ((quo_infs' h.fin.2.1 (by omega)).1 h2).1, ((quo_infs' h.fin.2.1 (by omega)).1 h2).2]
    exact around_infs.1
  · rw [((quo_infs' h.fin.1 (by omega)).2 h1).1, ((quo_infs' h.fin.1 (by omega)).2 h1).2, ((quo_infs' h.fin.2.1 (by omega)).2 h2).1, ((quo_infs' h.fin.2.1 (by omega)).2 h2).2]
    exact around_infs.2
theorem mid_whole {a b : Nat} (h : Mid a b) : ltB NI a = true ∧ ltB b PI = true ∧ leB NI a = true ∧ leB b PI = true := by
  obtain ⟨n1, n2, -, -⟩ := h.ends
  have k1 := key_abs n1
  have k2 := key_abs n2
  have f1 := key_fin h.fin.1
  have f2 := key_fin h.fin.2.1
  have e1 := ni_key
  have e2 := pi_key
  rw [ltB_of (by decide) n1, ltB_of n2 (by decide), leB_of (by decide) n1, leB_of n2 (by decide)]
  refine ⟨?_, ?_, ?_, ?_⟩ <;> simp only [decide_eq_true_eq] <;> omega
end Go.Proofs.Ytbepaoliboooaaa

namespace Go.Proofs.Ytbepaoliboooaaa
open Ex
open Ieee (double)

theorem outP_val {p q : Nat} (hp : p < 18446744073709551616) (hq : q < 18446744073709551616) (np : isN p = false) (nq : isN q = false) (h : key p ≤ key q) : outP p q = (downB p, upB q) := by
  obtain ⟨D1, D2, -⟩ := down_key hp np
  obtain ⟨U1, U2, -⟩ := up_key hq nq
  have k1 := key_abs np
  have k2 := key_abs nq
  have hi : infR = 9218868437227405312 := rfl
  have : leB (downB p) (upB q) = true := by
    rw [leB_of D2 U2]; simp only [decide_eq_true_eq]; split at D1 <;> split at U1 <;> omega
  unfold outP; rw [this]; rfl
theorem abs_key {x : Nat} (h : isN x = false) : isN (x % 9223372036854775808) = false ∧ key (x % 9223372036854775808) = ((key x).natAbs : Int) ∧ V (x % 9223372036854775808) = ((V x).natAbs : Int) := by
  have e : x % 9223372036854775808 % p63 = x % p63 := by unfold p63; omega
  have n : neg (x % 9223372036854775808) = false := by unfold neg p63; simp
  refine ⟨?_, ?_, ?_⟩
  · unfold isN at *; rw [e]; exact h
  · rw [key_eq, key_eq, e, n]; generalize x % p63 = r; unfold sgd; cases neg x <;> simp
  · unfold V; rw [e, n]; generalize U (x % p63) = r; unfold sgd; cases neg x <;> simp
theorem mag_key {a b : Nat} (h1 : isN a = false) (h2 : isN b = false) : isN (magB a b) = false ∧ key (magB a b) = max ((key a).natAbs : Int) ((key b).natAbs : Int) ∧ magB a b < 18446744073709551616 ∧ V (magB a b) = max ((V a).natAbs : Int) ((V b).natAbs : Int) ∧ 0 ≤ key (magB a b) := by
  obtain ⟨a1, a2, a3⟩ := abs_key h1
  obtain ⟨b1, b2, b3⟩ := abs_key h2
  have hk : ltB (b % 9223372036854775808) (a % 9223372036854775808) = decide (((key b).natAbs : Int) < ((key a).natAbs : Int)) := by rw [ltB_of b1 a1, a2, b2]
  have hv : ((V b).natAbs : Int) < ((V a).natAbs : Int) ↔ ((key b).natAbs : Int) < ((key a).natAbs : Int) := by rw [← a2, ← b2, ← a3, ← b3]; exact V_lt
  have lt : ∀ x : Nat, x % 9223372036854775808 < 18446744073709551616 := fun x => by omega
  unfold magB
  rw [hk]
  by_cases c : ((key b).natAbs : Int) < ((key a).natAbs : Int)
  · rw [decide_eq_true c, if_pos rfl]
    exact ⟨a1, by omega, lt _, by omega, by omega⟩
  · rw [decide_eq_false c, if_neg (by simp)]
    exact ⟨b1, by omega, lt _, by omega, by omega⟩
theorem mag_fin {a b : Nat} (h1 : a % p63 < infR) (h2 : b % p63 < infR) : magB a b % p63 < infR := by
  unfold magB; unfold p63 at *; split <;> omega
/-- What is told outwards is no further from 0 than what its ends are no further than, outwards. -/
theorem out_mag {p q s : Nat} (hp : p < 18446744073709551616) (hq : q < 18446744073709551616) (hs : s < 18446744073709551616) (np : isN p = false) (nq : isN q = false) (ns : isN s = false)
    (h : key p ≤ key q) (h1 : ((key p).natAbs : Int) ≤ key s) (h2 : ((key q).natAbs : Int) ≤ key s) : leB (magB (outP p q).1 (outP p q).2) (upB s) = true ∧ isN (outP p q).1 = false ∧ isN (outP p q).2 = false := by
  rw [outP_val hp hq np nq h]
  obtain ⟨D1, D2, -⟩ := down_key hp np
  obtain ⟨U1, U2, -⟩ := up_key hq nq
  obtain ⟨S1, S2, -⟩ := up_key hs ns
  have k1 := key_abs np
  have k2 := key_abs nq
  have k3 := key_abs ns
  have hi : infR = 9218868437227405312 := rfl
  obtain ⟨m1, m2, -⟩ := mag_key D2 U2
  refine ⟨?_, D2, U2⟩
  rw [leB_of m1 S2, m2]
  simp only [decide_eq_true_eq]
  split at D1 <;> split at U1 <;> split at S1 <;> omega
theorem out_same {s : Nat} (hs : s < 18446744073709551616) (ns : isN s = false) : (outP s s).2 = upB s := by rw [outP_val hs hs ns ns (Int.le_refl _)]
theorem RK_abs (T : Int) (p : Int) : ((RK T p).natAbs : Int) = RK (T.natAbs : Int) p := by
  have h0 : RK 0 p = 0 := by unfold RK; simp [rungOf_zero]; rfl
  by_cases h : 0 ≤ T
  · have := RK_mono p h
    rw [h0] at this
    rw [show (T.natAbs : Int) = T by omega]; omega
  · have := RK_mono p (show T ≤ 0 by omega)
    rw [h0] at this
    rw [show (T.natAbs : Int) = -T by omega, RK_neg]; omega
theorem mags_add {a b c d : Nat} (h : Mid a b) (g : Mid c d) : leB (magB (addP a b c d).1 (addP a b c d).2) (addP (magB a b) (magB a b) (magB c d) (magB c d)).2 = true := by
  obtain ⟨a1, b1, -, -⟩ := h.fin
  obtain ⟨c1, d1, -, -⟩ := g.fin
  have e1 := V_le.2 h.ends.2.2.1
  have e2 := V_le.2 g.ends.2.2.1
  obtain ⟨m1, m2, m3, m4, -⟩ := mag_key h.ends.1 h.ends.2.1
  obtain ⟨n1, n2, n3, n4, -⟩ := mag_key g.ends.1 g.ends.2.1
  obtain ⟨p1, p2, p3⟩ := add_val a1 c1
  obtain ⟨q1, q2, q3⟩ := add_val b1 d1
  obtain ⟨s1, s2, s3⟩ := add_val (mag_fin a1 b1) (mag_fin c1 d1)
  unfold addP
  rw [out_same s3 s1]
  refine (out_mag p3 q3 s3 p1 q1 s1 ?_ ?_ ?_).1
  · rw [p2, q2]; exact RK_mono _ (by omega)
  · rw [p2, s2, RK_abs]; exact RK_mono _ (by omega)
  · rw [q2, s2, RK_abs]; exact RK_mono _ (by omega)
theorem mags_sub {a b c d : Nat} (h : Mid a b) (g : Mid c d) : leB (magB (subP a b c d).1 (subP a b c d).2) (addP (magB a b) (magB a b) (magB c d) (magB c d)).2 = true := by
  obtain ⟨a1, b1, -, -⟩ := h.fin
  obtain ⟨c1, d1, -, -⟩ := g.fin
  have e1 := V_le.2 h.ends.2.2.1
  have e2 := V_le.2 g.ends.2.2.1
  obtain ⟨m1, m2, m3, m4, -⟩ := mag_key h.ends.1 h.ends.2.1
  obtain ⟨n1, n2, n3, n4, -⟩ := mag_key g.ends.1 g.ends.2.1
  obtain ⟨p1, p2, p3⟩ := sub_val a1 d1
  obtain ⟨q1, q2, q3⟩ := sub_val b1 c1
  obtain ⟨s1, s2, s3⟩ := add_val (mag_fin a1 b1) (mag_fin c1 d1)
  unfold addP subP
  rw [out_same s3 s1]
  refine (out_mag p3 q3 s3 p1 q1 s1 ?_ ?_ ?_).1
  · rw [p2, q2]; exact RK_mono _ (by omega)
  · rw [p2, s2, RK_abs]; exact RK_mono _ (by omega)
  · rw [q2, s2, RK_abs]; exact RK_mono _ (by omega)
theorem nmul_le {x y X Y : Int} (hx : (x.natAbs : Int) ≤ X) (hy : (y.natAbs : Int) ≤ Y) : ((x * y).natAbs : Int) ≤ X * Y := by
  rw [Int.natAbs_mul, Int.natCast_mul]
  exact Int.mul_le_mul hx hy (by omega) (by omega)
theorem mags_mul {a b c d : Nat} (h : Mid a b) (g : Mid c d) : leB (magB (mulP a b c d).1 (mulP a b c d).2) (mulP (magB a b) (magB a b) (magB c d) (magB c d)).2 = true := by
  obtain ⟨a1, b1, -, -⟩ := h.fin
  obtain ⟨c1, d1, -, -⟩ := g.fin
  obtain ⟨-, -, -, m4, -⟩ := mag_key h.ends.1 h.ends.2.1
  obtain ⟨-, -, -, n4, -⟩ := mag_key g.ends.1 g.ends.2.1
  have va : ((V a).natAbs : Int) ≤ V (magB a b) := by rw [m4]; exact Int.le_max_left _ _
  have vb : ((V b).natAbs : Int) ≤ V (magB a b) := by rw [m4]; exact Int.le_max_right _ _
  have vc : ((V c).natAbs : Int) ≤ V (magB c d) := by rw [n4]; exact Int.le_max_left _ _
  have vd : ((V d).natAbs : Int) ≤ V (magB c d) := by rw [n4]; exact Int.le_max_right _ _
  obtain ⟨p1, p2, p3⟩ := mul_val a1 c1
  obtain ⟨q1, q2, q3⟩ := mul_val a1 d1
  obtain ⟨r1, r2, r3⟩ := mul_val b1 c1
  obtain ⟨t1, t2, t3⟩ := mul_val b1 d1
  obtain ⟨s1, s2, s3⟩ := mul_val (mag_fin a1 b1) (mag_fin c1 d1)
  have kp : ((key (cop .mul a c)).natAbs : Int) ≤ key (cop .mul (magB a b) (magB c d)) := by rw [p2, s2, RK_abs]; exact RK_mono _ (nmul_le va vc)
  have kq : ((key (cop .mul a d)).natAbs : Int) ≤ key (cop .mul (magB a b) (magB c d)) := by rw [q2, s2, RK_abs]; exact RK_mono _ (nmul_le va vd)
  have kr : ((key (cop .mul b c)).natAbs : Int) ≤ key (cop .mul (magB a b) (magB c d)) := by rw [r2, s2, RK_abs]; exact RK_mono _ (nmul_le vb vc)
  have kt : ((key (cop .mul b d)).natAbs : Int) ≤ key (cop .mul (magB a b) (magB c d)) := by rw [t2, s2, RK_abs]; exact RK_mono _ (nmul_le vb vd)
  obtain ⟨l1, l2, l3⟩ := minL4 p1 q1 r1 t1
  obtain ⟨x1, x2, x3⟩ := maxL4 p1 q1 r1 t1
  have hS : (mulP (magB a b) (magB a b) (magB c d) (magB c d)).2 = upB (cop .mul (magB a b) (magB c d)) := by
    unfold mulP aroundP
    generalize cop .mul (magB a b) (magB c d) = s at *
    have e1 : minL s [s, s, s, s] = s := by simp [minL]
    have e2 : maxL s [s, s, s, s] = s := by simp [maxL]
    rw [s1, e1, e2]
    exact out_same s3 s1
  rw [hS]
  unfold mulP aroundP
  rw [p1, q1, r1, t1]
  refine (out_mag (mem4_lt l3 p3 q3 r3 t3) (mem4_lt x3 p3 q3 r3 t3) s3 l1 x1 s1 ?_ ?_ ?_).1 <;> (try rw [l2]) <;> (try rw [x2])
  all_goals
    clear l1 l2 l3 x1 x2 x3 hS p2 q2 r2 t2 s2 va vb vc vd m4 n4
    generalize key (cop .mul a c) = P at *
    generalize key (cop .mul a d) = Q at *
    generalize key (cop .mul b c) = R at *
    generalize key (cop .mul b d) = S at *
    generalize key (cop .mul (magB a b) (magB c d)) = T at *
    omega
end Go.Proofs.Ytbepaoliboooaaa
