/-
  The bound of e to the x: its upper end alone; it grows.
-/
import Derived.Test.YtbepaoliboooaaaIvx
import Derived.Test.YtbepaoliboooaaaIvw
import Derived.Test.YtbepaoliboooaaaIvExc
namespace Go.Proofs.Ytbepaoliboooaaa
open Ex
open Ieee (double)

theorem endsOf_mul (a b c d : Nat) : endsOf (mulI a b c d) = mulP a b c d := by
  rw [show mulI a b c d = iv (mulP a b c d).1 (mulP a b c d).2 from aroundP_eq _ _ _ _, endsOf_iv]
theorem endsOf_div (a b c d : Nat) : endsOf (divI a b c d) = divP a b c d := by rw [divP_eq, endsOf_iv]
theorem endsOf_out (a b : Nat) : endsOf (outI a b) = outP a b := by rw [outP_eq, endsOf_iv]

/-- A from-to whose lower end is no further from 0 than its upper one. -/
structure Sq (p : Nat × Nat) : Prop where
  n1 : isN p.1 = false
  n2 : isN p.2 = false
  l1 : p.1 < 18446744073709551616
  l2 : p.2 < 18446744073709551616
  o : ((key p.1).natAbs : Int) ≤ key p.2

/-- Squares of finite ends. -/
theorem sq_val {p : Nat × Nat} (h : Sq p) (hf : p.2 % p63 < infR) : (sq p).2 = upH p.2 ∧ Sq (sq p) := by
  obtain ⟨a, b⟩ := p
  obtain ⟨n1, n2, l1, l2, o⟩ := h
  simp only at n1 n2 l1 l2 o hf
  have kb := key_fin hf
  have kbb := key_abs n2
  have af : a % p63 < infR := fin_of_key n1 (by omega) (by omega)
  have va : ((V a).natAbs : Int) ≤ V b := by
    have h1 := abs_key n1
    have h2 : key (a % 9223372036854775808) ≤ key b := by rw [h1.2.1]; exact o
    have h3 := V_le.2 h2
    rw [h1.2.2] at h3; exact h3
  obtain ⟨p1, p2, p3⟩ := mul_val af af
  obtain ⟨q1, q2, q3⟩ := mul_val af hf
  obtain ⟨r1, r2, r3⟩ := mul_val hf af
  obtain ⟨t1, t2, t3⟩ := mul_val hf hf
  have vb : ((V b).natAbs : Int) ≤ V b := by omega
  have kp : ((key (cop .mul a a)).natAbs : Int) ≤ key (cop .mul b b) := by rw [p2, t2, RK_abs]; exact RK_mono _ (nmul_le va va)
  have kq : ((key (cop .mul a b)).natAbs : Int) ≤ key (cop .mul b b) := by rw [q2, t2, RK_abs]; exact RK_mono _ (nmul_le va vb)
  have kr : ((key (cop .mul b a)).natAbs : Int) ≤ key (cop .mul b b) := by rw [r2, t2, RK_abs]; exact RK_mono _ (nmul_le vb va)
  obtain ⟨m1, m2, m3⟩ := minL4 p1 q1 r1 t1
  obtain ⟨x1, x2, x3⟩ := maxL4 p1 q1 r1 t1
  have bm := mem4_lt m3 p3 q3 r3 t3
  have bx := mem4_lt x3 p3 q3 r3 t3
  have hmax : key (maxL (cop .mul a a) [cop .mul a a, cop .mul a b, cop .mul b a, cop .mul b b]) = key (cop .mul b b) := by
    rw [x2]
    clear x2 m2 p2 q2 r2 t2 m3 x3
    generalize key (cop .mul a a) = P at *
    generalize key (cop .mul a b) = Q at *
    generalize key (cop .mul b a) = R at *
    generalize key (cop .mul b b) = T at *
    omega
  have hmin : ((key (minL (cop .mul a a) [cop .mul a a, cop .mul a b, cop .mul b a, cop .mul b b])).natAbs : Int) ≤ key (cop .mul b b) := by
    rw [m2]
    clear x2 m2 p2 q2 r2 t2 m3 x3 hmax
    generalize key (cop .mul a a) = P at *
    generalize key (cop .mul a b) = Q at *
    generalize key (cop .mul b a) = R at *
    generalize key (cop .mul b b) = T at *
    omega
  unfold sq
  rw [endsOf_mul]
  unfold mulP aroundP
  rw [p1, q1, r1, t1]
  simp only [Bool.or_self, cond_false]
  have hle : key (minL (cop .mul a a) [cop .mul a a, cop .mul a b, cop .mul b a, cop .mul b b]) ≤ key (maxL (cop .mul a a) [cop .mul a a, cop .mul a b, cop .mul b a, cop .mul b b]) := by rw [hmax]; omega
  rw [outP_val bm bx m1 x1 hle, upB_same bx t3 x1 t1 hmax]
  clear m2 m3 x2 x3 kp kq kr hmax hle
  generalize minL (cop .mul a a) [cop .mul a a, cop .mul a b, cop .mul b a, cop .mul b b] = L at *
  obtain ⟨D1, D2, D3⟩ := down_key bm m1
  obtain ⟨U1, U2, U3⟩ := up_key t3 t1
  have k1 := key_abs m1
  have k2 := key_abs t1
  refine ⟨rfl, D2, U2, D3, U3, ?_⟩
  simp only
  have hi : infR = 9218868437227405312 := rfl
  split at D1 <;> split at U1 <;> omega
/-- Squares of an infinite upper end stay infinite. -/
theorem upH_mono {h h' : Nat} (n1 : isN h = false) (n2 : isN h' = false) (z : 0 ≤ key h) (o : key h ≤ key h') : key (upH h) ≤ key (upH h') ∧ isN (upH h) = false ∧ isN (upH h') = false ∧ 0 ≤ key (upH h) := by
    have step : ∀ {h : Nat}, isN h = false → 0 ≤ key h → (h % p63 < infR ∧ key (cop .mul h h) = RK (V h * V h) (-2148) ∧ isN (cop .mul h h) = false) ∨ (key h = infR ∧ key (cop .mul h h) = infR ∧ isN (cop .mul h h) = false) := fun {h} n z => by
      have ka := key_abs n
      by_cases hk : key h = infR
      · right
        have hp : (0 : Int) < infR := by decide
        have hm := (mul_above n (.inr ⟨hk, by omega⟩)).1
        refine ⟨hk, hm, ?_⟩
        have : cop .mul h h = PI := by
          have e := key_eq (cop .mul h h)
          rcases of_key (cop_lt .mul h h) (show PI < 18446744073709551616 by decide) (hm.trans pi_key.symm) with g | ⟨-, g⟩
          · exact g
          · exact absurd g (by decide)
        rw [this]; decide
      · left
        have hf := fin_of_key n hk (by have hp : (0 : Int) < infR := by decide
                                       omega)
        exact ⟨hf, (mul_val hf hf).2.1, (mul_val hf hf).1⟩
    have s1 := step n1 z
    have s2 := step n2 (by omega)
    have hle : key (cop .mul h h) ≤ key (cop .mul h' h') := by
      rcases s2 with ⟨f2, e2, -⟩ | ⟨-, e2, -⟩
      · rcases s1 with ⟨f1, e1, -⟩ | ⟨e0, -, -⟩
        · rw [e1, e2]
          refine RK_mono _ ?_
          have v := V_le.2 o
          have v0 : 0 ≤ V h := by
            have := (V_le (x := 0) (y := h)).2 (by rw [show key 0 = 0 by decide]; exact z)
            rwa [show V 0 = 0 by decide] at this
          exact Int.mul_le_mul v v v0 (by omega)
        · have := key_fin f2; have := key_abs n2; omega
      · have m1 : isN (cop .mul h h) = false := by rcases s1 with ⟨_, _, q⟩ | ⟨_, _, q⟩ <;> exact q
        have := key_abs m1; rw [e2]; omega
    have m1 : isN (cop .mul h h) = false := by rcases s1 with ⟨_, _, q⟩ | ⟨_, _, q⟩ <;> exact q
    have m2 : isN (cop .mul h' h') = false := by rcases s2 with ⟨_, _, q⟩ | ⟨_, _, q⟩ <;> exact q
    obtain ⟨U1, U2, U3⟩ := up_key (cop_lt .mul h h) m1
    obtain ⟨W1, W2, W3⟩ := up_key (cop_lt .mul h' h') m2
    have k1 := key_abs m1
    have k2 := key_abs m2
    have z1 : 0 ≤ key (cop .mul h h) := by
      rcases s1 with ⟨f1, e1, -⟩ | ⟨-, e1, -⟩
      · rw [e1]
        have h0 : RK 0 (-2148) = 0 := by unfold RK; simp [rungOf_zero]; rfl
        have v0 : 0 ≤ V h := by
          have := (V_le (x := 0) (y := h)).2 (by rw [show key 0 = 0 by decide]; exact z)
          rwa [show V 0 = 0 by decide] at this
        have := RK_mono (-2148) (Int.mul_nonneg v0 v0)
        rwa [h0] at this
      · rw [e1]; decide
    unfold upH
    refine ⟨?_, U2, W2, ?_⟩
    · split at U1 <;> split at W1 <;> omega
    · split at U1 <;> omega
theorem upN_mono : ∀ (k : Nat) {h h' : Nat}, isN h = false → isN h' = false → 0 ≤ key h → key h ≤ key h' → key (upN k h) ≤ key (upN k h') ∧ isN (upN k h) = false ∧ isN (upN k h') = false ∧ 0 ≤ key (upN k h)
  | 0, h, h', n1, n2, z, o => ⟨o, n1, n2, z⟩
  | k + 1, h, h', n1, n2, z, o => by
    obtain ⟨a, b, c, d⟩ := upN_mono k n1 n2 z o
    exact upH_mono b c d a
theorem up_mono {x y : Nat} (lx : x < 18446744073709551616) (ly : y < 18446744073709551616) (nx : isN x = false) (ny : isN y = false) (h : key x ≤ key y) : key (upB x) ≤ key (upB y) := by
  obtain ⟨U1, -, -⟩ := up_key lx nx
  obtain ⟨W1, -, -⟩ := up_key ly ny
  have k1 := key_abs nx
  have k2 := key_abs ny
  split at U1 <;> split at W1 <;> omega
theorem down_mono {x y : Nat} (lx : x < 18446744073709551616) (ly : y < 18446744073709551616) (nx : isN x = false) (ny : isN y = false) (h : key x ≤ key y) : key (downB x) ≤ key (downB y) := by
  obtain ⟨U1, -, -⟩ := down_key lx nx
  obtain ⟨W1, -, -⟩ := down_key ly ny
  have k1 := key_abs nx
  have k2 := key_abs ny
  split at U1 <;> split at W1 <;> omega

theorem down_le {x : Nat} (lx : x < 18446744073709551616) (nx : isN x = false) : key (downB x) ≤ key x := by
  obtain ⟨U1, -, -⟩ := down_key lx nx
  split at U1 <;> omega
theorem up_ge {x : Nat} (lx : x < 18446744073709551616) (nx : isN x = false) : key x ≤ key (upB x) := by
  obtain ⟨U1, -, -⟩ := up_key lx nx
  split at U1 <;> omega
/-- From -127 to 127. -/
abbrev CM : Nat := 13862009284302209024
abbrev CP : Nat := 4638637247447433216
structure Rg (x : Nat) : Prop where
  n : isN x = false
  a : key CM ≤ key x
  b : key x ≤ key CP
theorem Rg.fin {x : Nat} (h : Rg x) : x % p63 < infR := by
  have e1 : key CM = -4638637247447433216 := by decide
  have e2 : key CP = 4638637247447433216 := by decide
  have a := h.a
  have b := h.b
  have hi : infR = 9218868437227405312 := rfl
  exact fin_of_key h.n (by omega) (by omega)
theorem kC : 0 < key 4652218415073722368 := by decide
theorem fC : 4652218415073722368 % p63 < infR := by decide
theorem q_mono {x y : Nat} (hx : x % p63 < infR) (hy : y % p63 < infR) (h : key x ≤ key y) : key (cop .quo x 4652218415073722368) ≤ key (cop .quo y 4652218415073722368) :=
  quo_mono hx fC hy fC (.inl ⟨kC, kC⟩) (Int.mul_le_mul_of_nonneg_right (V_le.2 h) (by decide))
theorem q_num {x : Nat} (hx : x % p63 < infR) : isN (cop .quo x 4652218415073722368) = false := (quo_val hx fC (by decide)).1
theorem P_mono {x y : Nat} (hx : x % p63 < infR) (hy : y % p63 < infR) (h : key x ≤ key y) : key (expP x) ≤ key (expP y) := up_mono (cop_lt _ _ _) (cop_lt _ _ _) (q_num hx) (q_num hy) (q_mono hx hy h)
theorem rg_M : Rg CM := ⟨by decide, Int.le_refl _, by decide⟩
theorem rg_P : Rg CP := ⟨by decide, by decide, Int.le_refl _⟩
theorem P_fin {x : Nat} (h : Rg x) : isN (expP x) = false ∧ expP x % p63 < infR := by
  have n : isN (expP x) = false := (up_key (cop_lt _ _ _) (q_num h.fin)).2.1
  have a := P_mono rg_M.fin h.fin h.a
  have b := P_mono h.fin rg_P.fin h.b
  have e1 : -(infR : Int) < key (expP CM) := by decide +kernel
  have e2 : key (expP CP) < infR := by decide +kernel
  exact ⟨n, fin_of_key n (by omega) (by omega)⟩
theorem f1 : C1 % p63 < infR := by decide
theorem M_mono {x y : Nat} (hx : Rg x) (hy : Rg y) (h : key x ≤ key y) : key (expM y) ≤ key (expM x) := by
  have px := P_fin hx
  have py := P_fin hy
  obtain ⟨a1, a2, a3⟩ := sub_val f1 px.2
  obtain ⟨b1, b2, b3⟩ := sub_val f1 py.2
  refine down_mono b3 a3 b1 a1 ?_
  rw [a2, b2]
  have := V_le.2 (P_mono hx.fin hy.fin h)
  exact RK_mono _ (by omega)
theorem M_pos {x : Nat} (h : Rg x) : isN (expM x) = false ∧ expM x % p63 < infR ∧ 0 < key (expM x) ∧ expM x < 18446744073709551616 := by
  have px := P_fin h
  obtain ⟨a1, -, a3⟩ := sub_val f1 px.2
  obtain ⟨-, n, l⟩ := down_key a3 a1
  have a := M_mono rg_M h h.a
  have b := M_mono h rg_P h.b
  have e1 : 0 < key (expM CP) := by decide +kernel
  have e2 : key (expM CM) < infR := by decide +kernel
  have hp : (0 : Int) < infR := by decide
  exact ⟨n, fin_of_key n (by show key (expM x) ≠ _; omega) (by show key (expM x) ≠ _; omega), by omega, l⟩
theorem one_quo {m : Nat} (hm : m % p63 < infR) (hk : 0 < key m) : isN (cop .quo C1 m) = false ∧ 0 ≤ key (cop .quo C1 m) := by
  have v := quo_val f1 hm (by omega)
  refine ⟨v.1, ?_⟩
  have := ((v.2.2 0 (by decide)).1 hk).1 (by rw [show V 0 = 0 by decide, Int.zero_mul]; exact Int.mul_nonneg (by decide) (Int.natCast_nonneg _))
  rwa [show key 0 = 0 by decide] at this
theorem H_mono {x y : Nat} (hx : Rg x) (hy : Rg y) (h : key x ≤ key y) (k : Nat) : key (upN k (upB (cop .quo C1 (expM x)))) ≤ key (upN k (upB (cop .quo C1 (expM y)))) ∧ isN (upN k (upB (cop .quo C1 (expM x)))) = false ∧ 0 ≤ key (upN k (upB (cop .quo C1 (expM x)))) := by
  have mx := M_pos hx
  have my := M_pos hy
  obtain ⟨a1, a2⟩ := one_quo mx.2.1 mx.2.2.1
  obtain ⟨b1, b2⟩ := one_quo my.2.1 my.2.2.1
  have hq : key (cop .quo C1 (expM x)) ≤ key (cop .quo C1 (expM y)) :=
    quo_mono f1 mx.2.1 f1 my.2.1 (.inl ⟨mx.2.2.1, my.2.2.1⟩) (Int.mul_le_mul_of_nonneg_left (V_le.2 (M_mono hx hy h)) (by decide))
  obtain ⟨U1, U2, U3⟩ := up_key (cop_lt .quo C1 (expM x)) a1
  obtain ⟨W1, W2, W3⟩ := up_key (cop_lt .quo C1 (expM y)) b1
  obtain ⟨r1, r2, -, r4⟩ := upN_mono k U2 W2 (by split at U1 <;> omega) (up_mono (cop_lt _ _ _) (cop_lt _ _ _) a1 b1 hq)
  exact ⟨r1, r2, r4⟩
set_option maxRecDepth 100000 in
theorem top_fin : ∀ k, k ≤ 10 → key (upN k (upB (cop .quo C1 (expM CP)))) < infR := by decide +kernel
/-- The upper end alone is enough. -/
theorem exp_eq {x : Nat} (h : Rg x) : expB x = expH x := by
  have hx := h.fin
  have qn := q_num hx
  have ql : cop .quo x 4652218415073722368 < 18446744073709551616 := cop_lt _ _ _
  have hpart : part x = outP (cop .quo x 4652218415073722368) (cop .quo x 4652218415073722368) := by
    unfold part
    rw [endsOf_div]
    unfold divP aroundP
    rw [show (leB 4652218415073722368 0 && leB 0 4652218415073722368) = false by decide]
    generalize cop .quo x 4652218415073722368 = q at *
    simp only [cond_false, qn, Bool.or_self]
    have e1 : minL q [q, q, q, q] = q := by simp [minL]
    have e2 : maxL q [q, q, q, q] = q := by simp [maxL]
    rw [e1, e2]
  rw [outP_val ql ql qn qn (Int.le_refl _)] at hpart
  have px := P_fin h
  obtain ⟨D1, D2, D3⟩ := down_key ql qn
  obtain ⟨U1, U2, U3⟩ := up_key ql qn
  have kq := key_abs qn
  -- the lower end of the part is finite, too
  have mq := q_mono rg_M.fin hx h.a
  have e1 : -(infR : Int) + 1 < key (cop .quo CM 4652218415073722368) := by decide +kernel
  have hdq := down_le ql qn
  have huq := up_ge ql qn
  have dP : key (downB (cop .quo x 4652218415073722368)) ≤ key (expP x) := by unfold expP; omega
  have dfin : downB (cop .quo x 4652218415073722368) % p63 < infR := by
    have kp := key_fin px.2
    have kp2 := key_abs px.1
    refine fin_of_key D2 (by omega) ?_
    split at D1 <;> omega
  obtain ⟨a1, a2, a3⟩ := sub_val f1 px.2
  obtain ⟨b1, b2, b3⟩ := sub_val f1 dfin
  have hab : key (cop .sub C1 (expP x)) ≤ key (cop .sub C1 (downB (cop .quo x 4652218415073722368))) := by
    rw [a2, b2]
    have := V_le.2 dP
    exact RK_mono _ (by omega)
  have hless : less1 x = (downB (cop .sub C1 (expP x)), upB (cop .sub C1 (downB (cop .quo x 4652218415073722368)))) := by
    unfold less1
    rw [endsOf_out, hpart]
    exact outP_val a3 b3 a1 b1 hab
  have mp := M_pos h
  obtain ⟨-, u2, u3⟩ := up_key b3 b1
  have hlo : key (expM x) ≤ key (upB (cop .sub C1 (downB (cop .quo x 4652218415073722368)))) := by
    have h1 := down_le a3 a1
    have h2 := up_ge b3 b1
    show key (downB (cop .sub C1 (expP x))) ≤ _
    omega
  have hinv : (inv1 x).2 = upB (cop .quo C1 (expM x)) ∧ Sq (inv1 x) := by
    unfold inv1
    rw [endsOf_div, hless]
    show (divP C1 C1 (expM x) (upB (cop .sub C1 (downB (cop .quo x 4652218415073722368))))).2 = _ ∧ Sq (divP C1 C1 (expM x) (upB (cop .sub C1 (downB (cop .quo x 4652218415073722368)))))
    generalize upB (cop .sub C1 (downB (cop .quo x 4652218415073722368))) = w at *
    obtain ⟨n1, n2, n3, n4⟩ := mp
    obtain ⟨p1, p2⟩ := one_quo n2 n3
    clear hless hpart a1 a2 a3 b1 b2 b3 hab dfin D1 D2 D3 U1 U2 U3 mq hdq huq dP
    -- by the greater end, too
    have wq : isN (cop .quo C1 w) = false ∧ 0 ≤ key (cop .quo C1 w) ∧ key (cop .quo C1 w) ≤ key (cop .quo C1 (expM x)) := by
      by_cases hw : key w = infR
      · have ew : w = PI := is_pi u3 hw
        have e0 : cop .quo C1 PI = 0 := by decide +kernel
        rw [ew, e0]
        exact ⟨by decide, by decide, by rw [show key 0 = 0 by decide]; exact p2⟩
      · have wf := fin_of_key u2 hw (by have hp : (0 : Int) < infR := (by decide); omega)
        obtain ⟨q1, q2⟩ := one_quo wf (by omega)
        exact ⟨q1, q2, quo_mono f1 wf f1 n2 (.inl ⟨by omega, n3⟩) (Int.mul_le_mul_of_nonneg_left (V_le.2 hlo) (by decide))⟩
    obtain ⟨w1, w2, w3⟩ := wq
    unfold divP aroundP
    have z : key 0 = 0 := by decide
    rw [leB_of n1 (by decide), z, decide_eq_false (show ¬ key (expM x) ≤ 0 by omega), Bool.false_and]
    simp only [cond_false, p1, w1, Bool.or_self]
    obtain ⟨m1, m2, m3⟩ := minL4 p1 w1 p1 w1
    obtain ⟨x1, x2, x3⟩ := maxL4 p1 w1 p1 w1
    have lp : cop .quo C1 (expM x) < 18446744073709551616 := cop_lt _ _ _
    have lw : cop .quo C1 w < 18446744073709551616 := cop_lt _ _ _
    have bm := mem4_lt m3 lp lw lp lw
    have bx := mem4_lt x3 lp lw lp lw
    clear m3 x3
    generalize cop .quo C1 (expM x) = A at *
    generalize cop .quo C1 w = B at *
    have kmin : key (minL A [A, B, A, B]) = key B := by omega
    have kmax : key (maxL A [A, B, A, B]) = key A := by omega
    rw [outP_val bm bx m1 x1 (by omega), upB_same bx lp x1 p1 kmax]
    clear m2 x2 kmax
    generalize minL A [A, B, A, B] = L at *
    obtain ⟨D1, D2, D3⟩ := down_key bm m1
    obtain ⟨U1, U2, U3⟩ := up_key lp p1
    have k1 := key_abs m1
    have k2 := key_abs p1
    refine ⟨rfl, D2, U2, D3, U3, ?_⟩
    simp only
    have hi : infR = 9218868437227405312 := rfl
    split at D1 <;> split at U1 <;> omega
  have iter : ∀ k, k ≤ 10 → (sqN k (inv1 x)).2 = upN k (upB (cop .quo C1 (expM x))) ∧ Sq (sqN k (inv1 x)) := by
    intro k
    induction k with
    | zero => intro _; exact hinv
    | succ k ih =>
      intro hk
      obtain ⟨i1, i2⟩ := ih (by omega)
      have top := top_fin k (by omega)
      obtain ⟨m1, m2, m3⟩ := H_mono h rg_P h.b k
      have hp : (0 : Int) < infR := by decide
      have hf : (sqN k (inv1 x)).2 % p63 < infR := by
        rw [i1]
        exact fin_of_key m2 (by omega) (by omega)
      obtain ⟨j1, j2⟩ := sq_val i2 hf
      refine ⟨?_, j2⟩
      show (sq (sqN k (inv1 x))).2 = upH (upN k (upB (cop .quo C1 (expM x))))
      rw [j1, i1]
  have hk := (iter 10 (by decide)).1
  have h512 : leB 4647714815446351872 x = false := by
    rw [leB_of (by decide) h.n]
    have e2 : key CP = 4638637247447433216 := by decide
    have e3 : key 4647714815446351872 = 4647714815446351872 := by decide
    have := h.b
    rw [e2] at this
    rw [e3]
    exact decide_eq_false (by omega)
  unfold expB
  rw [h.n, h512, Bool.or_self, if_neg (by simp), hk]
  rfl
theorem exp_mono {x y : Nat} (hx : Rg x) (hy : Rg y) (h : key x ≤ key y) : leB (expB x) (expB y) = true := by
  rw [exp_eq hx, exp_eq hy]
  obtain ⟨a, b, -⟩ := H_mono hx hy h 10
  obtain ⟨-, c, -⟩ := H_mono hy hy (Int.le_refl _) 10
  show leB (upN 10 _) (upN 10 _) = true
  rw [leB_of b c]
  exact decide_eq_true a

/-! ### The numbers that the law tries -/
theorem is_16 : Is C16 1 4 := by
  refine ⟨by decide, by decide, by decide, ?_⟩
  decide +kernel
theorem is_64 : Is C64 1 6 := by
  refine ⟨by decide, by decide, by decide, ?_⟩
  decide +kernel
theorem xr_is {n : Int} (h1 : -9000 ≤ n) (h2 : n ≤ 9000) : Is (xr n) n (-4) := by
  have := cop_quo_is (x := floatOfInt .f64 n) (y := C16) (m := n) (n := 1) (k := 0) (l := 4) (by rw [Int.mul_one]; exact is_ofInt (by omega) (by omega)) is_16 (by decide) (by omega) (by omega) (by decide) (by decide)
  rwa [show (0 : Int) - 4 = -4 by decide] at this
theorem yr_is {n : Int} (h1 : -9000 ≤ n) (h2 : n ≤ 9000) : Is (cop .quo (floatOfInt .f64 n) C64) n (-6) := by
  have := cop_quo_is (x := floatOfInt .f64 n) (y := C64) (m := n) (n := 1) (k := 0) (l := 6) (by rw [Int.mul_one]; exact is_ofInt (by omega) (by omega)) is_64 (by decide) (by omega) (by omega) (by decide) (by decide)
  rwa [show (0 : Int) - 6 = -6 by decide] at this
theorem cp_is : Is CP 8128 (-6) := by
  refine ⟨by decide, by decide, by decide, ?_⟩
  decide +kernel
theorem cm_is : Is CM (-8128) (-6) := by
  refine ⟨by decide, by decide, by decide, ?_⟩
  decide +kernel
theorem rg_of {x : Nat} {m : Int} (h : Is x m (-6)) (h1 : -8128 ≤ m) (h2 : m ≤ 8128) : Rg x :=
  ⟨h.num, (cm_is.le_of h).1 h1, (h.le_of cp_is).1 h2⟩
theorem xr_is6 {n : Int} (h1 : -9000 ≤ n) (h2 : n ≤ 9000) : Is (xr n) (n * 4) (-6) := by
  have := (xr_is h1 h2).down 2 (by decide)
  rwa [show (-4 : Int) - ((2 : Nat) : Int) = -6 by decide] at this
def sEgo : Nat → Nat → E → E → E → E
  | 0, _, _, _, s => s
  | k + 1, i, a, t, s => sEgo k (i + 1) a (.fb .quo (.fb .mul t a) (.lf (i2fV i))) (.fb .add s (.fb .quo (.fb .mul t a) (.lf (i2fV i))))
theorem sEgo_ok (Z : Val) : ∀ (k i : Nat) (a t s : E), evF Z (sEgo k i a t s) = sGo k i (evF Z a) (evF Z t) (evF Z s)
  | 0, _, _, _, _ => rfl
  | k + 1, i, a, t, s => by
    unfold sEgo sGo
    rw [sEgo_ok Z k, forceN_eq, forceN_eq]
    rfl
theorem chkN_ok : ∀ {k : Nat} {n : Int}, chkN k n = true → ∀ m : Int, n ≤ m → m < n + k → chk m = true
  | 0, n, _, m, h1, h2 => by omega
  | k + 1, n, h, m, h1, h2 => by
    unfold chkN at h
    simp only [Bool.and_eq_true] at h
    by_cases e : m = n
    · subst e; exact h.1
    · exact chkN_ok h.2 m (by omega) (by omega)
end Go.Proofs.Ytbepaoliboooaaa
