/-
  'IvBack': whatever it is given.
-/
import Derived.Test.YtbepaoliboooaaaIvx
import Derived.Test.YtbepaoliboooaaaMr
import Derived.Test.YtbepaoliboooaaaEnb
namespace Go.Proofs.Ytbepaoliboooaaa
open Go.RowKit Ex

def e52 : Nat := 52
def e134 : Nat := 134
def e914 : Nat := 914
def e994 : Nat := 994
def e2046 : Nat := 2046
theorem U_inf : U infR = 2 ^ e52 * 2 ^ e2046 := by
  have h1 : infR % p52 = 0 := by decide
  have h2 : infR / p52 - 1 = e2046 := by decide
  have h3 : p52 = 2 ^ e52 := by decide
  unfold U
  rw [if_neg (by decide), h1, h2, Nat.add_zero, h3]
theorem sm_of {m : Int} {B e : Nat} (h : m.natAbs < 2 ^ B) (hB : B + e ≤ 2098) : Sm (m * (2 ^ e : Nat)) := by
  have h1 : m.natAbs * 2 ^ e < 2 ^ B * 2 ^ e := Nat.mul_lt_mul_of_pos_right h (Nat.two_pow_pos e)
  have h2 : 2 ^ B * 2 ^ e ≤ U infR := by
    rw [← Nat.pow_add, U_inf, ← Nat.pow_add]
    have : e52 + e2046 = 2098 := rfl
    exact Nat.pow_le_pow_right (by decide) (by omega)
  have h3 : (m * (2 ^ e : Nat)).natAbs < U infR := by rw [Int.natAbs_mul, Int.natAbs_natCast]; omega
  generalize m * ((2 ^ e : Nat) : Int) = t at *
  unfold Sm
  omega
theorem low_eq : 1074 = low74 := rfl
theorem unit_eq : (2 ^ 1074 : Nat) = unit := by rw [unit_def, ← low_eq]
theorem quo_num {m y : Nat} (hm : isN m = false) (hl : m < 18446744073709551616) (hy : y % p63 < infR) (h0 : key y ≠ 0) : isN (cop .quo m y) = false := by
  by_cases h1 : key m = infR
  · rw [is_pi hl h1]
    rcases Int.lt_or_gt_of_ne h0 with g | g
    · rw [((quo_infs' hy h0).2 g).2]; decide
    · rw [((quo_infs' hy h0).1 g).2]; decide
  · by_cases h2 : key m = -(infR : Int)
    · rw [is_ni hl h2]
      rcases Int.lt_or_gt_of_ne h0 with g | g
      · rw [((quo_infs' hy h0).2 g).1]; decide
      · rw [((quo_infs' hy h0).1 g).1]; decide
    · exact (quo_val (fin_of_key hm h1 h2) hy h0).1
/-- What is around four is around each. -/
theorem around_in {p q r t a : Nat} (hp : isN p = false ∧ p < 18446744073709551616) (hq : isN q = false ∧ q < 18446744073709551616) (hr : isN r = false ∧ r < 18446744073709551616) (ht : isN t = false ∧ t < 18446744073709551616) (ha : isN a = false) :
    ((key p ≤ key a ∨ key q ≤ key a ∨ key r ≤ key a ∨ key t ≤ key a) → leB (aroundP p q r t).1 a = true) ∧ ((key a ≤ key p ∨ key a ≤ key q ∨ key a ≤ key r ∨ key a ≤ key t) → leB a (aroundP p q r t).2 = true) := by
  obtain ⟨l1, l2, l3⟩ := minL4 hp.1 hq.1 hr.1 ht.1
  obtain ⟨x1, x2, x3⟩ := maxL4 hp.1 hq.1 hr.1 ht.1
  have b1 := mem4_lt l3 hp.2 hq.2 hr.2 ht.2
  have b2 := mem4_lt x3 hp.2 hq.2 hr.2 ht.2
  unfold aroundP
  rw [hp.1, hq.1, hr.1, ht.1]
  simp only [Bool.or_self, cond_false]
  clear l3 x3
  generalize minL p [p, q, r, t] = L at *
  generalize maxL p [p, q, r, t] = M at *
  have hLM : key L ≤ key M := by rw [l2, x2]; omega
  rw [outP_val b1 b2 l1 x1 hLM]
  obtain ⟨D1, D2, -⟩ := down_key b1 l1
  obtain ⟨U1, U2, -⟩ := up_key b2 x1
  have k1 := key_abs l1
  have k2 := key_abs x1
  rw [leB_of D2 ha, leB_of ha U2]
  simp only [decide_eq_true_eq]
  constructor
  · intro h
    have : key L ≤ key a := by rw [l2]; rcases h with h | h | h | h <;> omega
    split at D1 <;> omega
  · intro h
    have : key a ≤ key M := by rw [x2]; rcases h with h | h | h | h <;> omega
    split at U1 <;> omega

theorem mid_is {a b : Nat} (h : Mid a b) : ∃ m n : Int, V a = m * (2 ^ e994 : Nat) ∧ V b = n * (2 ^ e994 : Nat) ∧ m.natAbs < 2 ^ 134 ∧ n.natAbs < 2 ^ 134 := by
  obtain ⟨m, n, h1, h2, -, h4, h5⟩ := h
  have e : (-80 + 1074 : Int).toNat = e994 := by decide
  have v1 := h1.2.2.2
  have v2 := h2.2.2.2
  rw [e] at v1 v2
  exact ⟨m, n, v1, v2, h4, h5⟩
theorem lo_le {x a : Nat} (h : Lo x (V a)) (ha : isN a = false) : leB x a = true := by
  rw [leB_of h.1 ha]
  simp only [decide_eq_true_eq]
  rcases h.2 with g | g
  · have := key_abs ha; omega
  · exact V_le.1 g
theorem hi_ge {x a : Nat} (h : Hi x (V a)) (ha : isN a = false) : leB a x = true := by
  rw [leB_of ha h.1]
  simp only [decide_eq_true_eq]
  rcases h.2 with g | g
  · have := key_abs ha; omega
  · exact V_le.1 g
theorem back_sub {a b c d : Nat} (h : Mid a b) (g : Mid c d) : leB (subP (addP a b c d).1 (addP a b c d).2 c d).1 a = true ∧ leB b (subP (addP a b c d).1 (addP a b c d).2 c d).2 = true := by
  obtain ⟨n1, n2, o1, -⟩ := h.ends
  obtain ⟨n3, n4, o2, -⟩ := g.ends
  obtain ⟨m, n, e1, e2, e3, e4⟩ := mid_is h
  obtain ⟨p, q, f1, f2, f3, f4⟩ := mid_is g
  have v1 := V_le.2 o1
  have v2 := V_le.2 o2
  have s1 : Sm (V a) := by rw [e1]; exact sm_of (B := 134) e3 (by decide)
  have s2 : Sm (V b) := by rw [e2]; exact sm_of (B := 134) e4 (by decide)
  have s3 : Sm (V c) := by rw [f1]; exact sm_of (B := 134) f3 (by decide)
  have s4 : Sm (V a + V c) := by rw [e1, f1, ← Int.add_mul]; exact sm_of (B := 135) (by omega) (by decide)
  have s5 : Sm (V b + V c) := by rw [e2, f1, ← Int.add_mul]; exact sm_of (B := 135) (by omega) (by decide)
  have la : Lo a (V a) := ⟨n1, .inr (Int.le_refl _)⟩
  have hb : Hi b (V a) := ⟨n2, .inr v1⟩
  have la' : Lo a (V b) := ⟨n1, .inr v1⟩
  have hb' : Hi b (V b) := ⟨n2, .inr (Int.le_refl _)⟩
  have lc : Lo c (V c) := ⟨n3, .inr (Int.le_refl _)⟩
  have hd : Hi d (V c) := ⟨n4, .inr v2⟩
  have A := add_enc la hb lc hd s1 s3
  have B := add_enc la' hb' lc hd s2 s3
  have A' := (sub_enc A.1 A.2 lc hd s4 s3).1
  have B' := (sub_enc B.1 B.2 lc hd s5 s3).2
  rw [show V a + V c - V c = V a by omega] at A'
  rw [show V b + V c - V c = V b by omega] at B'
  exact ⟨lo_le A' n1, hi_ge B' n2⟩
theorem prod_e : 2 ^ e914 * unit = 2 ^ e994 * 2 ^ e994 := by
  have h : e914 + low74 = e994 + e994 := rfl
  rw [unit_def, ← Nat.pow_add, ← Nat.pow_add, h]
theorem prod_r (m n : Int) : m * n * (2 ^ e914 : Nat) * (2 ^ 1074 : Nat) = m * (2 ^ e994 : Nat) * (n * (2 ^ e994 : Nat)) := by
  have e' : ((2 ^ e914 : Nat) : Int) * (unit : Int) = ((2 ^ e994 : Nat) : Int) * ((2 ^ e994 : Nat) : Int) := by rw [← Int.natCast_mul, prod_e, Int.natCast_mul]
  rw [unit_eq, Int.mul_assoc (m * n), e']
  generalize ((2 ^ e994 : Nat) : Int) = P
  ac_rfl
theorem back_div {a b c d : Nat} (h : Mid a b) (g : Mid c d) (h0 : leB c 0 = true → leB 0 d = false) : leB (divP (mulP a b c d).1 (mulP a b c d).2 c d).1 a = true ∧ leB b (divP (mulP a b c d).1 (mulP a b c d).2 c d).2 = true := by
  have hoff := off_zero g h0
  obtain ⟨n1, n2, o1, -⟩ := h.ends
  obtain ⟨n3, n4, o2, -⟩ := g.ends
  obtain ⟨m, n, e1, e2, e3, e4⟩ := mid_is h
  obtain ⟨p, q, f1, f2, f3, f4⟩ := mid_is g
  have v1 := V_le.2 o1
  have v2 := V_le.2 o2
  have s1 : Sm (V a) := by rw [e1]; exact sm_of (B := 134) e3 (by decide)
  have s2 : Sm (V b) := by rw [e2]; exact sm_of (B := 134) e4 (by decide)
  have s3 : Sm (V c) := by rw [f1]; exact sm_of (B := 134) f3 (by decide)
  have sz : ∀ {x y : Int}, x.natAbs < 2 ^ 134 → y.natAbs < 2 ^ 134 → Sm (x * y * (2 ^ e914 : Nat)) := fun {x y} hx hy => by
    refine sm_of (B := e134 + e134) ?_ (by decide)
    rw [Int.natAbs_mul, Nat.pow_add]
    exact Nat.mul_lt_mul'' hx hy
  have r1 : m * p * (2 ^ e914 : Nat) * (2 ^ 1074 : Nat) = V a * V c := by rw [e1, f1]; exact prod_r m p
  have r2 : n * p * (2 ^ e914 : Nat) * (2 ^ 1074 : Nat) = V b * V c := by rw [e2, f1]; exact prod_r n p
  have t1 := sz e3 f3
  have t2 := sz e4 f3
  generalize m * p * ((2 ^ e914 : Nat) : Int) = R1 at *
  generalize n * p * ((2 ^ e914 : Nat) : Int) = R2 at *
  have la : Lo a (V a) := ⟨n1, .inr (Int.le_refl _)⟩
  have hb : Hi b (V a) := ⟨n2, .inr v1⟩
  have la' : Lo a (V b) := ⟨n1, .inr v1⟩
  have hb' : Hi b (V b) := ⟨n2, .inr (Int.le_refl _)⟩
  have lc : Lo c (V c) := ⟨n3, .inr (Int.le_refl _)⟩
  have hd : Hi d (V c) := ⟨n4, .inr v2⟩
  have A := mul_enc la hb lc hd s1 s3 r1
  have B := mul_enc la' hb' lc hd s2 s3 r2
  have ml := mulP_lt a b c d
  have mn := aroundP_num (cop .mul a c) (cop .mul a d) (cop .mul b c) (cop .mul b d)
  have mn' : isN (mulP a b c d).1 = false ∧ isN (mulP a b c d).2 = false := mn
  clear mn
  have hz : (leB c 0 && leB 0 d) = false := by cases gg : leB c 0 <;> simp; exact h0 gg
  generalize (mulP a b c d).1 = x at *
  generalize (mulP a b c d).2 = y at *
  rw [unit_eq] at r1 r2
  have kc0 : key c ≠ 0 := by omega
  have kd0 : key d ≠ 0 := by omega
  have fc := g.fin.1
  have fd := g.fin.2.1
  unfold divP
  rw [hz]
  simp only [cond_false]
  have N := fun {w z : Nat} (hw : isN w = false) (hl : w < 18446744073709551616) (hf : z % p63 < infR) (hk : key z ≠ 0) => (⟨quo_num hw hl hf hk, cop_lt _ _ _⟩ : isN (cop .quo w z) = false ∧ cop .quo w z < 18446744073709551616)
  have I := fun {w} => @around_in (cop .quo x c) (cop .quo x d) (cop .quo y c) (cop .quo y d) w (N mn'.1 ml.1 fc kc0) (N mn'.1 ml.1 fd kd0) (N mn'.2 ml.2 fc kc0) (N mn'.2 ml.2 fd kd0)
  have ka := key_abs n1
  have kb := key_abs n2
  rcases hoff with ⟨p1, -⟩ | ⟨p1, -⟩
  · refine ⟨(I n1).1 (.inl ?_), (I n2).2 (.inr (.inr (.inl ?_)))⟩
    · rcases A.1.cases t1 with q | ⟨q1, q2⟩
      · rw [is_ni ml.1 q, ((quo_infs' fc kc0).1 p1).1, ni_key]; omega
      · refine (((quo_val q1 fc kc0).2.2 a n1).1 p1).2 ?_
        rw [← r1]; exact Int.mul_le_mul_of_nonneg_right q2 (Int.natCast_nonneg _)
    · rcases B.2.cases t2 with q | ⟨q1, q2⟩
      · rw [is_pi ml.2 q, ((quo_infs' fc kc0).1 p1).2, pi_key]; omega
      · refine (((quo_val q1 fc kc0).2.2 b n2).1 p1).1 ?_
        rw [← r2]; exact Int.mul_le_mul_of_nonneg_right q2 (Int.natCast_nonneg _)
  · refine ⟨(I n1).1 (.inr (.inr (.inl ?_))), (I n2).2 (.inl ?_)⟩
    · rcases A.2.cases t1 with q | ⟨q1, q2⟩
      · rw [is_pi ml.2 q, ((quo_infs' fc kc0).2 p1).2, ni_key]; omega
      · refine (((quo_val q1 fc kc0).2.2 a n1).2 p1).2 ?_
        rw [← r1]; exact Int.mul_le_mul_of_nonneg_right q2 (Int.natCast_nonneg _)
    · rcases B.1.cases t2 with q | ⟨q1, q2⟩
      · rw [is_ni ml.1 q, ((quo_infs' fc kc0).2 p1).1, pi_key]; omega
      · refine (((quo_val q1 fc kc0).2.2 b n2).2 p1).1 ?_
        rw [← r2]; exact Int.mul_le_mul_of_nonneg_right q2 (Int.natCast_nonneg _)

def bs (j : Nat) : E := .af 21 j (f4 (two 20 0) (two 20 1) (mb 0) (mb 1))
def bd (j : Nat) : E := .af 23 j (f4 (two 22 0) (two 22 1) (mb 0) (mb 1))
def backF : List Cf := [([], .fc .leq (bs 0) (ma 0), true), ([], .fc .leq (ma 1) (bs 1), true),
  ([(.fc .leq (mb 0) (.lf 0), false)], .fc .leq (bd 0) (ma 0), true), ([(.fc .leq (mb 0) (.lf 0), false)], .fc .leq (ma 1) (bd 1), true),
  ([(.fc .leq (.lf 0) (mb 1), false)], .fc .leq (bd 0) (ma 0), true), ([(.fc .leq (.lf 0) (mb 1), false)], .fc .leq (ma 1) (bd 1), true)]
theorem backF_ok {V : Val} (hM : MkV V) : CfOK V backF := by
  obtain ⟨a, b, ha, hb, h⟩ := ev_ma hM
  obtain ⟨c, d, hc, hd, g⟩ := ev_mb hM
  have t := back_sub h g
  intro f hf hcond
  simp only [backF, List.mem_cons, List.not_mem_nil, or_false] at hf
  rcases hf with rfl | rfl | rfl | rfl | rfl | rfl <;> simp only [List.mem_cons, List.not_mem_nil, or_false, forall_eq, false_implies, implies_true] at hcond <;> simp only [ev_leq, ev_lf, bs, bd, two, ev20 hM, ev21 hM, ev22 hM, ev23 hM, ha, hb, hc, hd] at hcond ⊢
  · exact t.1
  · exact t.2
  · exact (back_div h g fun q => by rw [hcond] at q; cases q).1
  · exact (back_div h g fun q => by rw [hcond] at q; cases q).2
  · exact (back_div h g fun _ => hcond).1
  · exact (back_div h g fun _ => hcond).2
set_option maxRecDepth 1000000 in
set_option maxHeartbeats 100000000 in
theorem ivBack_run : lawRun 6 10 40 [.i, .i, .i, .i, .i, .i] backF = true := by kernel_rfl
theorem ivBack_any (a0 a1 a2 a3 a4 a5 : Int) (w : World) (_h0 : -9223372036854775808 ≤ a0 ∧ a0 ≤ 9223372036854775807) (_h1 : -9223372036854775808 ≤ a1 ∧ a1 ≤ 9223372036854775807) (_h2 : -9223372036854775808 ≤ a2 ∧ a2 ≤ 9223372036854775807) (_h3 : -9223372036854775808 ≤ a3 ∧ a3 ≤ 9223372036854775807) (_h4 : -9223372036854775808 ≤ a4 ∧ a4 ≤ 9223372036854775807) (_h5 : -9223372036854775808 ≤ a5 ∧ a5 ≤ 9223372036854775807) :
    Calls Try.prog 6 #[.int .i64 a0, .int .i64 a1, .int .i64 a2, .int .i64 a3, .int .i64 a4, .int .i64 a5] w fun e w' => e = .returned (.bool true) ∧ Below w.heap.size w w' := by
  refine law_of (ds := [.i a0, .i a1, .i a2, .i a3, .i a4, .i a5]) (nx0 := 10) (k := 40) (by simp) (backF_ok (adM_ok _)) (vs := #[.int .i64 a0, .int .i64 a1, .int .i64 a2, .int .i64 a3, .int .i64 a4, .int .i64 a5]) ⟨rfl, rfl, rfl, rfl, rfl, rfl, trivial⟩ fun ks hk => ?_
  simp only [List.map_cons, List.map_nil, AD.kind, shapes, shapes1, List.flatMap_cons, List.flatMap_nil, List.append_nil, List.mem_cons, List.not_mem_nil, or_false] at hk
  subst hk
  exact ivBack_run
end Go.Proofs.Ytbepaoliboooaaa
