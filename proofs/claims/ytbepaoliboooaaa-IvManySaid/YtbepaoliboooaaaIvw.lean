/-
  Of wider from-tos wider ones are told.
-/
import Derived.Test.YtbepaoliboooaaaGr
import Derived.Test.YtbepaoliboooaaaGm
namespace Go.Proofs.Ytbepaoliboooaaa
open Ex
open Ieee (double)

theorem out_wide {p q p' q' : Nat} (hp : p < 18446744073709551616) (hq : q < 18446744073709551616) (hp' : p' < 18446744073709551616) (hq' : q' < 18446744073709551616) (np : isN p = false) (nq : isN q = false) (np' : isN p' = false) (nq' : isN q' = false)
    (h1 : key p' ≤ key p) (h2 : key p ≤ key q) (h3 : key q ≤ key q') : leB (outP p' q').1 (outP p q).1 = true ∧ leB (outP p q).2 (outP p' q').2 = true := by
  rw [outP_val hp hq np nq h2, outP_val hp' hq' np' nq' (by omega)]
  obtain ⟨D1, D2, -⟩ := down_key hp np
  obtain ⟨U1, U2, -⟩ := up_key hq nq
  obtain ⟨E1, E2, -⟩ := down_key hp' np'
  obtain ⟨W1, W2, -⟩ := up_key hq' nq'
  have k1 := key_abs np
  have k2 := key_abs nq
  have k3 := key_abs np'
  have k4 := key_abs nq'
  have hi : infR = 9218868437227405312 := rfl
  rw [leB_of E2 D2, leB_of U2 W2]
  simp only [decide_eq_true_eq]
  split at D1 <;> split at U1 <;> split at E1 <;> split at W1 <;> omega

/-- Finite ends, in order. -/
structure Fo (x y : Nat) : Prop where
  a : x % p63 < infR
  b : y % p63 < infR
  o : key x ≤ key y
theorem Mid.fo {a b : Nat} (h : Mid a b) : Fo a b := ⟨h.fin.1, h.fin.2.1, h.ends.2.2.1⟩

theorem wide_add {a b c d a' b' c' d' : Nat} (h : Fo a b) (g : Fo c d) (h' : Fo a' b') (g' : Fo c' d') (k1 : key a' ≤ key a) (k2 : key b ≤ key b') (k3 : key c' ≤ key c) (k4 : key d ≤ key d') :
    leB (addP a' b' c' d').1 (addP a b c d).1 = true ∧ leB (addP a b c d).2 (addP a' b' c' d').2 = true := by
  obtain ⟨p1, p2, p3⟩ := add_val h.a g.a
  obtain ⟨q1, q2, q3⟩ := add_val h.b g.b
  obtain ⟨r1, r2, r3⟩ := add_val h'.a g'.a
  obtain ⟨s1, s2, s3⟩ := add_val h'.b g'.b
  have e1 := V_le.2 k1
  have e2 := V_le.2 k2
  have e3 := V_le.2 k3
  have e4 := V_le.2 k4
  have e5 := V_le.2 h.o
  have e6 := V_le.2 g.o
  refine out_wide p3 q3 r3 s3 p1 q1 r1 s1 ?_ ?_ ?_
  · rw [r2, p2]; exact RK_mono _ (by omega)
  · rw [p2, q2]; exact RK_mono _ (by omega)
  · rw [q2, s2]; exact RK_mono _ (by omega)
theorem wide_sub {a b c d a' b' c' d' : Nat} (h : Fo a b) (g : Fo c d) (h' : Fo a' b') (g' : Fo c' d') (k1 : key a' ≤ key a) (k2 : key b ≤ key b') (k3 : key c' ≤ key c) (k4 : key d ≤ key d') :
    leB (subP a' b' c' d').1 (subP a b c d).1 = true ∧ leB (subP a b c d).2 (subP a' b' c' d').2 = true := by
  obtain ⟨p1, p2, p3⟩ := sub_val h.a g.b
  obtain ⟨q1, q2, q3⟩ := sub_val h.b g.a
  obtain ⟨r1, r2, r3⟩ := sub_val h'.a g'.b
  obtain ⟨s1, s2, s3⟩ := sub_val h'.b g'.a
  have e1 := V_le.2 k1
  have e2 := V_le.2 k2
  have e3 := V_le.2 k3
  have e4 := V_le.2 k4
  have e5 := V_le.2 h.o
  have e6 := V_le.2 g.o
  refine out_wide p3 q3 r3 s3 p1 q1 r1 s1 ?_ ?_ ?_
  · rw [r2, p2]; exact RK_mono _ (by omega)
  · rw [p2, q2]; exact RK_mono _ (by omega)
  · rw [q2, s2]; exact RK_mono _ (by omega)

/-- A product within is between those of the corners. -/
theorem corners {x y A B C D : Int} (h1 : A ≤ x) (h2 : x ≤ B) (h3 : C ≤ y) (h4 : y ≤ D) :
    (A * C ≤ x * y ∨ A * D ≤ x * y ∨ B * C ≤ x * y ∨ B * D ≤ x * y) ∧ (x * y ≤ A * C ∨ x * y ≤ A * D ∨ x * y ≤ B * C ∨ x * y ≤ B * D) := by
  by_cases hy : 0 ≤ y
  · have a1 := Int.mul_le_mul_of_nonneg_right h1 hy
    have a2 := Int.mul_le_mul_of_nonneg_right h2 hy
    constructor
    · by_cases hA : 0 ≤ A
      · exact .inl (Int.le_trans (Int.mul_le_mul_of_nonneg_left h3 hA) a1)
      · exact .inr (.inl (Int.le_trans (Int.mul_le_mul_of_nonpos_left (by omega) h4) a1))
    · by_cases hB : 0 ≤ B
      · exact .inr (.inr (.inr (Int.le_trans a2 (Int.mul_le_mul_of_nonneg_left h4 hB))))
      · exact .inr (.inr (.inl (Int.le_trans a2 (Int.mul_le_mul_of_nonpos_left (by omega) h3))))
  · have a1 := Int.mul_le_mul_of_nonpos_right h2 (show y ≤ 0 by omega)
    have a2 := Int.mul_le_mul_of_nonpos_right h1 (show y ≤ 0 by omega)
    constructor
    · by_cases hB : 0 ≤ B
      · exact .inr (.inr (.inl (Int.le_trans (Int.mul_le_mul_of_nonneg_left h3 hB) a1)))
      · exact .inr (.inr (.inr (Int.le_trans (Int.mul_le_mul_of_nonpos_left (by omega) h4) a1)))
    · by_cases hA : 0 ≤ A
      · exact .inr (.inl (Int.le_trans a2 (Int.mul_le_mul_of_nonneg_left h4 hA)))
      · exact .inl (Int.le_trans a2 (Int.mul_le_mul_of_nonpos_left (by omega) h3))
theorem min_le4 {x p q r t : Int} (h : p ≤ x ∨ q ≤ x ∨ r ≤ x ∨ t ≤ x) : min (min p q) (min r t) ≤ x := by rcases h with h | h | h | h <;> omega
theorem le_max4 {x p q r t : Int} (h : x ≤ p ∨ x ≤ q ∨ x ≤ r ∨ x ≤ t) : x ≤ max (max p q) (max r t) := by rcases h with h | h | h | h <;> omega
/-- Of four beside four: where each is between some of the others. -/
theorem around_wide {p q r t p' q' r' t' : Nat} (hp : isN p = false ∧ p < 18446744073709551616) (hq : isN q = false ∧ q < 18446744073709551616) (hr : isN r = false ∧ r < 18446744073709551616) (ht : isN t = false ∧ t < 18446744073709551616)
    (hp' : isN p' = false ∧ p' < 18446744073709551616) (hq' : isN q' = false ∧ q' < 18446744073709551616) (hr' : isN r' = false ∧ r' < 18446744073709551616) (ht' : isN t' = false ∧ t' < 18446744073709551616)
    (h : ∀ x ∈ [p, q, r, t], (key p' ≤ key x ∨ key q' ≤ key x ∨ key r' ≤ key x ∨ key t' ≤ key x) ∧ (key x ≤ key p' ∨ key x ≤ key q' ∨ key x ≤ key r' ∨ key x ≤ key t')) :
    leB (aroundP p' q' r' t').1 (aroundP p q r t).1 = true ∧ leB (aroundP p q r t).2 (aroundP p' q' r' t').2 = true := by
  obtain ⟨l1, l2, l3⟩ := minL4 hp.1 hq.1 hr.1 ht.1
  obtain ⟨x1, x2, x3⟩ := maxL4 hp.1 hq.1 hr.1 ht.1
  obtain ⟨m1, m2, m3⟩ := minL4 hp'.1 hq'.1 hr'.1 ht'.1
  obtain ⟨y1, y2, y3⟩ := maxL4 hp'.1 hq'.1 hr'.1 ht'.1
  have g1 := min_le4 (h p (by simp)).1
  have g2 := min_le4 (h q (by simp)).1
  have g3 := min_le4 (h r (by simp)).1
  have g4 := min_le4 (h t (by simp)).1
  have f1 := le_max4 (h p (by simp)).2
  have f2 := le_max4 (h q (by simp)).2
  have f3 := le_max4 (h r (by simp)).2
  have f4 := le_max4 (h t (by simp)).2
  unfold aroundP
  rw [hp.1, hq.1, hr.1, ht.1, hp'.1, hq'.1, hr'.1, ht'.1]
  have b1 := mem4_lt l3 hp.2 hq.2 hr.2 ht.2
  have b2 := mem4_lt x3 hp.2 hq.2 hr.2 ht.2
  have b3 := mem4_lt m3 hp'.2 hq'.2 hr'.2 ht'.2
  have b4 := mem4_lt y3 hp'.2 hq'.2 hr'.2 ht'.2
  clear l3 x3 m3 y3 h
  simp only [Bool.or_self, cond_false]
  generalize minL p [p, q, r, t] = L at *
  generalize maxL p [p, q, r, t] = M at *
  generalize minL p' [p', q', r', t'] = L' at *
  generalize maxL p' [p', q', r', t'] = M' at *
  generalize key p = kp at *
  generalize key q = kq at *
  generalize key r = kr at *
  generalize key t = kt at *
  generalize key p' = kp' at *
  generalize key q' = kq' at *
  generalize key r' = kr' at *
  generalize key t' = kt' at *
  refine out_wide b1 b2 b3 b4 l1 x1 m1 y1 ?_ ?_ ?_
  · rw [l2, m2]; clear l2 m2 x2 y2; omega
  · rw [l2, x2]; clear l2 m2 x2 y2; omega
  · rw [x2, y2]; clear l2 m2 x2 y2; omega
theorem wide_mul {a b c d a' b' c' d' : Nat} (h : Fo a b) (g : Fo c d) (h' : Fo a' b') (g' : Fo c' d') (k1 : key a' ≤ key a) (k2 : key b ≤ key b') (k3 : key c' ≤ key c) (k4 : key d ≤ key d') :
    leB (mulP a' b' c' d').1 (mulP a b c d).1 = true ∧ leB (mulP a b c d).2 (mulP a' b' c' d').2 = true := by
  have e1 := V_le.2 k1
  have e2 := V_le.2 k2
  have e3 := V_le.2 k3
  have e4 := V_le.2 k4
  have e5 := V_le.2 h.o
  have e6 := V_le.2 g.o
  have val : ∀ {x y : Nat}, x % p63 < infR → y % p63 < infR → isN (cop .mul x y) = false ∧ cop .mul x y < 18446744073709551616 := fun hx hy => ⟨(mul_val hx hy).1, (mul_val hx hy).2.2⟩
  have key' : ∀ {x y : Nat}, x % p63 < infR → y % p63 < infR → V a ≤ V x → V x ≤ V b → V c ≤ V y → V y ≤ V d →
      (key (cop .mul a' c') ≤ key (cop .mul x y) ∨ key (cop .mul a' d') ≤ key (cop .mul x y) ∨ key (cop .mul b' c') ≤ key (cop .mul x y) ∨ key (cop .mul b' d') ≤ key (cop .mul x y)) ∧
      (key (cop .mul x y) ≤ key (cop .mul a' c') ∨ key (cop .mul x y) ≤ key (cop .mul a' d') ∨ key (cop .mul x y) ≤ key (cop .mul b' c') ∨ key (cop .mul x y) ≤ key (cop .mul b' d')) := fun {x y} hx hy v1 v2 v3 v4 => by
    rw [(mul_val hx hy).2.1, (mul_val h'.a g'.a).2.1, (mul_val h'.a g'.b).2.1, (mul_val h'.b g'.a).2.1, (mul_val h'.b g'.b).2.1]
    obtain ⟨c1, c2⟩ := corners (x := V x) (y := V y) (A := V a') (B := V b') (C := V c') (D := V d') (by omega) (by omega) (by omega) (by omega)
    exact ⟨c1.imp (RK_mono _) (.imp (RK_mono _) (.imp (RK_mono _) (RK_mono _))), c2.imp (RK_mono _) (.imp (RK_mono _) (.imp (RK_mono _) (RK_mono _)))⟩
  refine around_wide (val h.a g.a) (val h.a g.b) (val h.b g.a) (val h.b g.b) (val h'.a g'.a) (val h'.a g'.b) (val h'.b g'.a) (val h'.b g'.b) fun x hx => ?_
  simp only [List.mem_cons, List.not_mem_nil, or_false] at hx
  rcases hx with rfl | rfl | rfl | rfl
  · exact key' h.a g.a (Int.le_refl _) e5 (Int.le_refl _) e6
  · exact key' h.a g.b (Int.le_refl _) e5 e6 (Int.le_refl _)
  · exact key' h.b g.a e5 (Int.le_refl _) (Int.le_refl _) e6
  · exact key' h.b g.b e5 (Int.le_refl _) e6 (Int.le_refl _)

/-- A quotient within is between those of the corners. -/
theorem quo_corners {a b c d x y : Nat} (ha : a % p63 < infR) (hb : b % p63 < infR) (hc : c % p63 < infR) (hd : d % p63 < infR) (hx : x % p63 < infR) (hy : y % p63 < infR) (h0 : (0 < key c ∧ 0 < key d) ∨ (key c < 0 ∧ key d < 0))
    (v1 : V a ≤ V x) (v2 : V x ≤ V b) (v3 : V c ≤ V y) (v4 : V y ≤ V d) :
    (key (cop .quo a c) ≤ key (cop .quo x y) ∨ key (cop .quo a d) ≤ key (cop .quo x y) ∨ key (cop .quo b c) ≤ key (cop .quo x y) ∨ key (cop .quo b d) ≤ key (cop .quo x y)) ∧
    (key (cop .quo x y) ≤ key (cop .quo a c) ∨ key (cop .quo x y) ≤ key (cop .quo a d) ∨ key (cop .quo x y) ≤ key (cop .quo b c) ∨ key (cop .quo x y) ≤ key (cop .quo b d)) := by
  have k3 := V_le.1 v3
  have k4 := V_le.1 v4
  rcases h0 with ⟨p1, p2⟩ | ⟨p1, p2⟩
  · have c0 : 0 < V c := (V_pos_key).2 p1
    have d0 : 0 < V d := (V_pos_key).2 p2
    have y0 : 0 < key y := by omega
    constructor
    · by_cases hA : 0 ≤ V a
      · exact .inr (.inl (quo_mono ha hd hx hy (.inl ⟨p2, y0⟩) (Int.le_trans (Int.mul_le_mul_of_nonneg_left v4 hA) (Int.mul_le_mul_of_nonneg_right v1 (Int.le_of_lt d0)))))
      · exact .inl (quo_mono ha hc hx hy (.inl ⟨p1, y0⟩) (Int.le_trans (Int.mul_le_mul_of_nonpos_left (by omega) v3) (Int.mul_le_mul_of_nonneg_right v1 (Int.le_of_lt c0))))
    · by_cases hB : 0 ≤ V b
      · exact .inr (.inr (.inl (quo_mono hx hy hb hc (.inl ⟨y0, p1⟩) (Int.le_trans (Int.mul_le_mul_of_nonneg_right v2 (Int.le_of_lt c0)) (Int.mul_le_mul_of_nonneg_left v3 hB)))))
      · exact .inr (.inr (.inr (quo_mono hx hy hb hd (.inl ⟨y0, p2⟩) (Int.le_trans (Int.mul_le_mul_of_nonneg_right v2 (Int.le_of_lt d0)) (Int.mul_le_mul_of_nonpos_left (by omega) v4)))))
  · have c0 : V c < 0 := (V_neg_key).2 p1
    have d0 : V d < 0 := (V_neg_key).2 p2
    have y0 : key y < 0 := by omega
    constructor
    · by_cases hB : 0 ≤ V b
      · exact .inr (.inr (.inr (quo_mono hb hd hx hy (.inr ⟨p2, y0⟩) (Int.le_trans (Int.mul_le_mul_of_nonneg_left v4 hB) (Int.mul_le_mul_of_nonpos_right v2 (Int.le_of_lt d0))))))
      · exact .inr (.inr (.inl (quo_mono hb hc hx hy (.inr ⟨p1, y0⟩) (Int.le_trans (Int.mul_le_mul_of_nonpos_left (by omega) v3) (Int.mul_le_mul_of_nonpos_right v2 (Int.le_of_lt c0))))))
    · by_cases hA : 0 ≤ V a
      · exact .inl (quo_mono hx hy ha hc (.inr ⟨y0, p1⟩) (Int.le_trans (Int.mul_le_mul_of_nonpos_right v1 (Int.le_of_lt c0)) (Int.mul_le_mul_of_nonneg_left v3 hA)))
      · exact .inr (.inl (quo_mono hx hy ha hd (.inr ⟨y0, p2⟩) (Int.le_trans (Int.mul_le_mul_of_nonpos_right v1 (Int.le_of_lt d0)) (Int.mul_le_mul_of_nonpos_left (by omega) v4))))
theorem ni_le {x : Nat} (h : isN x = false) : leB NI x = true ∧ leB x PI = true := by
  have k := key_abs h
  have e1 := ni_key
  have e2 := pi_key
  rw [leB_of (by decide) h, leB_of h (by decide)]
  refine ⟨?_, ?_⟩ <;> simp only [decide_eq_true_eq] <;> omega
theorem wide_div {a b c d a' b' c' d' : Nat} (h : Fo a b) (g : Fo c d) (h' : Fo a' b') (g' : Fo c' d') (k1 : key a' ≤ key a) (k2 : key b ≤ key b') (k3 : key c' ≤ key c) (k4 : key d ≤ key d') :
    leB (divP a' b' c' d').1 (divP a b c d).1 = true ∧ leB (divP a b c d).2 (divP a' b' c' d').2 = true := by
  have z : key 0 = 0 := by decide
  have n0 : isN 0 = false := by decide
  have nc := (key_fin g.a).2.2
  have nd := (key_fin g.b).2.2
  have nc' := (key_fin g'.a).2.2
  have nd' := (key_fin g'.b).2.2
  have e1 := V_le.2 k1
  have e2 := V_le.2 k2
  have e3 := V_le.2 k3
  have e4 := V_le.2 k4
  have e5 := V_le.2 h.o
  have e6 := V_le.2 g.o
  have go := g.o
  by_cases hz : key c' ≤ 0 ∧ 0 ≤ key d'
  · have : divP a' b' c' d' = (NI, PI) := by
      unfold divP
      rw [leB_of nc' n0, leB_of n0 nd', z, decide_eq_true hz.1, decide_eq_true hz.2]; rfl
    rw [this]
    exact ⟨(ni_le (divP_num _ _ _ _).1).1, (ni_le (divP_num _ _ _ _).2).2⟩
  · have hz2 : ¬ (key c ≤ 0 ∧ 0 ≤ key d) := by omega
    have q1 : (leB c' 0 && leB 0 d') = false := by
      rw [leB_of nc' n0, leB_of n0 nd', z]
      by_cases q : key c' ≤ 0
      · rw [decide_eq_false (show ¬ 0 ≤ key d' by omega), Bool.and_false]
      · rw [decide_eq_false q, Bool.false_and]
    have q2 : (leB c 0 && leB 0 d) = false := by
      rw [leB_of nc n0, leB_of n0 nd, z]
      by_cases q : key c ≤ 0
      · rw [decide_eq_false (show ¬ 0 ≤ key d by omega), Bool.and_false]
      · rw [decide_eq_false q, Bool.false_and]
    have h0 : (0 < key c' ∧ 0 < key d') ∨ (key c' < 0 ∧ key d' < 0) := by have := g'.o; omega
    have h1 : (0 < key c ∧ 0 < key d) ∨ (key c < 0 ∧ key d < 0) := by omega
    have val : ∀ {x y : Nat}, x % p63 < infR → y % p63 < infR → key y ≠ 0 → isN (cop .quo x y) = false ∧ cop .quo x y < 18446744073709551616 := fun hx hy hk => ⟨(quo_val hx hy hk).1, (quo_val hx hy hk).2.1⟩
    unfold divP
    rw [q1, q2]
    simp only [cond_false]
    refine around_wide (val h.a g.a (by omega)) (val h.a g.b (by omega)) (val h.b g.a (by omega)) (val h.b g.b (by omega)) (val h'.a g'.a (by omega)) (val h'.a g'.b (by omega)) (val h'.b g'.a (by omega)) (val h'.b g'.b (by omega)) fun x hx => ?_
    simp only [List.mem_cons, List.not_mem_nil, or_false] at hx
    rcases hx with rfl | rfl | rfl | rfl
    · exact quo_corners h'.a h'.b g'.a g'.b h.a g.a h0 (by omega) (by omega) (by omega) (by omega)
    · exact quo_corners h'.a h'.b g'.a g'.b h.a g.b h0 (by omega) (by omega) (by omega) (by omega)
    · exact quo_corners h'.a h'.b g'.a g'.b h.b g.a h0 (by omega) (by omega) (by omega) (by omega)
    · exact quo_corners h'.a h'.b g'.a g'.b h.b g.b h0 (by omega) (by omega) (by omega) (by omega)
end Go.Proofs.Ytbepaoliboooaaa
