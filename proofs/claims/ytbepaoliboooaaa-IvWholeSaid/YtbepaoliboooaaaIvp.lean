/-
  From-tos of moderate numbers: how far from 0 what is told of them goes.
-/
import Derived.Test.YtbepaoliboooaaaIvo
namespace Go.Proofs.Ytbepaoliboooaaa
open Ex
open Ieee (double)

theorem outP_val {p q : Nat} (hp : p < 18446744073709551616) (hq : q < 18446744073709551616) (np : isN p = false) (nq : isN q = false) (h : key p ≤ key q) : outP p q = (downB p, upB q) := by
  obtain ⟨D1, D2, -⟩ := down_key hp np
  obtain ⟨U1, U2, -⟩ := up_key hq nq
  have k1 := key_abs np
  have k2 := key_abs nq
  have hi : infR = 9218868437227405312 := rfl
  have : leB (downB p) (upB q) = true := by
    rw [leB_of D2 U2]; simp only [decide_eq_true_eq]; split at D1 <;> split at U1 <;> omega
  unfold outP; rw [this]; rfl
theorem abs_key {x : Nat} (h : isN x = false) : isN (x % 9223372036854775808) = false ∧ key (x % 9223372036854775808) = ((key x).natAbs : Int) ∧ V (x % 9223372036854775808) = ((V x).natAbs : Int) := by
  have e : x % 9223372036854775808 % p63 = x % p63 := by unfold p63; omega
  have n : neg (x % 9223372036854775808) = false := by unfold neg p63; simp
  refine ⟨?_, ?_, ?_⟩
  · unfold isN at *; rw [e]; exact h
  · rw [key_eq, key_eq, e, n]; generalize x % p63 = r; unfold sgd; cases neg x <;> simp
  · unfold V; rw [e, n]; generalize U (x % p63) = r; unfold sgd; cases neg x <;> simp
theorem mag_key {a b : Nat} (h1 : isN a = false) (h2 : isN b = false) : isN (magB a b) = false ∧ key (magB a b) = max ((key a).natAbs : Int) ((key b).natAbs : Int) ∧ magB a b < 18446744073709551616 ∧ V (magB a b) = max ((V a).natAbs : Int) ((V b).natAbs : Int) ∧ 0 ≤ key (magB a b) := by
  obtain ⟨a1, a2, a3⟩ := abs_key h1
  obtain ⟨b1, b2, b3⟩ := abs_key h2
  have hk : ltB (b % 9223372036854775808) (a % 9223372036854775808) = decide (((key b).natAbs : Int) < ((key a).natAbs : Int)) := by rw [ltB_of b1 a1, a2, b2]
  have hv : ((V b).natAbs : Int) < ((V a).natAbs : Int) ↔ ((key b).natAbs : Int) < ((key a).natAbs : Int) := by rw [← a2, ← b2, ← a3, ← b3]; exact V_lt
  have lt : ∀ x : Nat, x % 9223372036854775808 < 18446744073709551616 := fun x => by omega
  unfold magB
  rw [hk]
  by_cases c : ((key b).natAbs : Int) < ((key a).natAbs : Int)
  · rw [decide_eq_true c, if_pos rfl]
    exact ⟨a1, by omega, lt _, by omega, by omega⟩
  · rw [decide_eq_false c, if_neg (by simp)]
    exact ⟨b1, by omega, lt _, by omega, by omega⟩
theorem mag_fin {a b : Nat} (h1 : a % p63 < infR) (h2 : b % p63 < infR) : magB a b % p63 < infR := by
  unfold magB; unfold p63 at *; split <;> omega
/-- What is told outwards is no further from 0 than what its ends are no further than, outwards. -/
theorem out_mag {p q s : Nat} (hp : p < 18446744073709551616) (hq : q < 18446744073709551616) (hs : s < 18446744073709551616) (np : isN p = false) (nq : isN q = false) (ns : isN s = false)
    (h : key p ≤ key q) (h1 : ((key p).natAbs : Int) ≤ key s) (h2 : ((key q).natAbs : Int) ≤ key s) : leB (magB (outP p q).1 (outP p q).2) (upB s) = true ∧ isN (outP p q).1 = false ∧ isN (outP p q).2 = false := by
  rw [outP_val hp hq np nq h]
  obtain ⟨D1, D2, -⟩ := down_key hp np
  obtain ⟨U1, U2, -⟩ := up_key hq nq
  obtain ⟨S1, S2, -⟩ := up_key hs ns
  have k1 := key_abs np
  have k2 := key_abs nq
  have k3 := key_abs ns
  have hi : infR = 9218868437227405312 := rfl
  obtain ⟨m1, m2, -⟩ := mag_key D2 U2
  refine ⟨?_, D2, U2⟩
  rw [leB_of m1 S2, m2]
  simp only [decide_eq_true_eq]
  split at D1 <;> split at U1 <;> split at S1 <;> omega
theorem out_same {s : Nat} (hs : s < 18446744073709551616) (ns : isN s = false) : (outP s s).2 = upB s := by rw [outP_val hs hs ns ns (Int.le_refl _)]
theorem RK_abs (T : Int) (p : Int) : ((RK T p).natAbs : Int) = RK (T.natAbs : Int) p := by
  have h0 : RK 0 p = 0 := by unfold RK; simp [rungOf_zero]; rfl
  by_cases h : 0 ≤ T
  · have := RK_mono p h
    rw [h0] at this
    rw [show (T.natAbs : Int) = T by omega]; omega
  · have := RK_mono p (show T ≤ 0 by omega)
    rw [h0] at this
    rw [show (T.natAbs : Int) = -T by omega, RK_neg]; omega
theorem mags_add {a b c d : Nat} (h : Mid a b) (g : Mid c d) : leB (magB (addP a b c d).1 (addP a b c d).2) (addP (magB a b) (magB a b) (magB c d) (magB c d)).2 = true := by
  obtain ⟨a1, b1, -, -⟩ := h.fin
  obtain ⟨c1, d1, -, -⟩ := g.fin
  have e1 := V_le.2 h.ends.2.2.1
  have e2 := V_le.2 g.ends.2.2.1
  obtain ⟨m1, m2, m3, m4, -⟩ := mag_key h.ends.1 h.ends.2.1
  obtain ⟨n1, n2, n3, n4, -⟩ := mag_key g.ends.1 g.ends.2.1
  obtain ⟨p1, p2, p3⟩ := add_val a1 c1
  obtain ⟨q1, q2, q3⟩ := add_val b1 d1
  obtain ⟨s1, s2, s3⟩ := add_val (mag_fin a1 b1) (mag_fin c1 d1)
  unfold addP
  rw [out_same s3 s1]
  refine (out_mag p3 q3 s3 p1 q1 s1 ?_ ?_ ?_).1
  · rw [p2, q2]; exact RK_mono _ (by omega)
  · rw [p2, s2, RK_abs]; exact RK_mono _ (by omega)
  · rw [q2, s2, RK_abs]; exact RK_mono _ (by omega)
theorem mags_sub {a b c d : Nat} (h : Mid a b) (g : Mid c d) : leB (magB (subP a b c d).1 (subP a b c d).2) (addP (magB a b) (magB a b) (magB c d) (magB c d)).2 = true := by
  obtain ⟨a1, b1, -, -⟩ := h.fin
  obtain ⟨c1, d1, -, -⟩ := g.fin
  have e1 := V_le.2 h.ends.2.2.1
  have e2 := V_le.2 g.ends.2.2.1
  obtain ⟨m1, m2, m3, m4, -⟩ := mag_key h.ends.1 h.ends.2.1
  obtain ⟨n1, n2, n3, n4, -⟩ := mag_key g.ends.1 g.ends.2.1
  obtain ⟨p1, p2, p3⟩ := sub_val a1 d1
  obtain ⟨q1, q2, q3⟩ := sub_val b1 c1
  obtain ⟨s1, s2, s3⟩ := add_val (mag_fin a1 b1) (mag_fin c1 d1)
  unfold addP subP
  rw [out_same s3 s1]
  refine (out_mag p3 q3 s3 p1 q1 s1 ?_ ?_ ?_).1
  · rw [p2, q2]; exact RK_mono _ (by omega)
  · rw [p2, s2, RK_abs]; exact RK_mono _ (by omega)
  · rw [q2, s2, RK_abs]; exact RK_mono _ (by omega)
theorem nmul_le {x y X Y : Int} (hx : (x.natAbs : Int) ≤ X) (hy : (y.natAbs : Int) ≤ Y) : ((x * y).natAbs : Int) ≤ X * Y := by
  rw [Int.natAbs_mul, Int.natCast_mul]
  exact Int.mul_le_mul hx hy (by omega) (by omega)
theorem mags_mul {a b c d : Nat} (h : Mid a b) (g : Mid c d) : leB (magB (mulP a b c d).1 (mulP a b c d).2) (mulP (magB a b) (magB a b) (magB c d) (magB c d)).2 = true := by
  obtain ⟨a1, b1, -, -⟩ := h.fin
  obtain ⟨c1, d1, -, -⟩ := g.fin
  obtain ⟨-, -, -, m4, -⟩ := mag_key h.ends.1 h.ends.2.1
  obtain ⟨-, -, -, n4, -⟩ := mag_key g.ends.1 g.ends.2.1
  have va : ((V a).natAbs : Int) ≤ V (magB a b) := by rw [m4]; exact Int.le_max_left _ _
  have vb : ((V b).natAbs : Int) ≤ V (magB a b) := by rw [m4]; exact Int.le_max_right _ _
  have vc : ((V c).natAbs : Int) ≤ V (magB c d) := by rw [n4]; exact Int.le_max_left _ _
  have vd : ((V d).natAbs : Int) ≤ V (magB c d) := by rw [n4]; exact Int.le_max_right _ _
  obtain ⟨p1, p2, p3⟩ := mul_val a1 c1
  obtain ⟨q1, q2, q3⟩ := mul_val a1 d1
  obtain ⟨r1, r2, r3⟩ := mul_val b1 c1
  obtain ⟨t1, t2, t3⟩ := mul_val b1 d1
  obtain ⟨s1, s2, s3⟩ := mul_val (mag_fin a1 b1) (mag_fin c1 d1)
  have kp : ((key (cop .mul a c)).natAbs : Int) ≤ key (cop .mul (magB a b) (magB c d)) := by rw [p2, s2, RK_abs]; exact RK_mono _ (nmul_le va vc)
  have kq : ((key (cop .mul a d)).natAbs : Int) ≤ key (cop .mul (magB a b) (magB c d)) := by rw [q2, s2, RK_abs]; exact RK_mono _ (nmul_le va vd)
  have kr : ((key (cop .mul b c)).natAbs : Int) ≤ key (cop .mul (magB a b) (magB c d)) := by rw [r2, s2, RK_abs]; exact RK_mono _ (nmul_le vb vc)
  have kt : ((key (cop .mul b d)).natAbs : Int) ≤ key (cop .mul (magB a b) (magB c d)) := by rw [t2, s2, RK_abs]; exact RK_mono _ (nmul_le vb vd)
  obtain ⟨l1, l2, l3⟩ := minL4 p1 q1 r1 t1
  obtain ⟨x1, x2, x3⟩ := maxL4 p1 q1 r1 t1
  have hS : (mulP (magB a b) (magB a b) (magB c d) (magB c d)).2 = upB (cop .mul (magB a b) (magB c d)) := by
    unfold mulP aroundP
    generalize cop .mul (magB a b) (magB c d) = s at *
    have e1 : minL s [s, s, s, s] = s := by simp [minL]
    have e2 : maxL s [s, s, s, s] = s := by simp [maxL]
    rw [s1, e1, e2]
    exact out_same s3 s1
  rw [hS]
  unfold mulP aroundP
  rw [p1, q1, r1, t1]
  refine (out_mag (mem4_lt l3 p3 q3 r3 t3) (mem4_lt x3 p3 q3 r3 t3) s3 l1 x1 s1 ?_ ?_ ?_).1 <;> (try rw [l2]) <;> (try rw [x2])
  all_goals
    clear l1 l2 l3 x1 x2 x3 hS p2 q2 r2 t2 s2 va vb vc vd m4 n4
    generalize key (cop .mul a c) = P at *
    generalize key (cop .mul a d) = Q at *
    generalize key (cop .mul b c) = R at *
    generalize key (cop .mul b d) = S at *
    generalize key (cop .mul (magB a b) (magB c d)) = T at *
    omega
end Go.Proofs.Ytbepaoliboooaaa
