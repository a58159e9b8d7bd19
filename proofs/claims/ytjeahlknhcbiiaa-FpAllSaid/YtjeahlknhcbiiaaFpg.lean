/-
  More laws of whole numbers, and of scaling, walked.
-/
import Derived.Test.YtjeahlknhcbiiaaFpf
namespace Go.Proofs.Ytjeahlknhcbiiaa
open Go.RowKit
open Ieee (double)
attribute [local go_sem] alloc_drewN setCell_drewN call_bits call_frombits ord_lt ord_eq ord_gt ord_ne ord_le ord_ge eqB_self run_fadd run_fsub run_fmul run_fquo call_fma run_fneg

theorem fadd_is {a b : Nat} {m n k : Int} (ha : Is a m k) (hb : Is b n k) (hf : Fits (m + n) k) : ∃ r, (∀ w, fval .add w a b = r) ∧ ndraw .add a b = 0 ∧ Is r (rn (m + n)) k := by
  obtain ⟨r, e, h⟩ := is_add ha hb hf
  exact ⟨r, fval_some (op := .add) e, ndraw_some (op := .add) e, h⟩
theorem fsub_is {a b : Nat} {m n k : Int} (ha : Is a m k) (hb : Is b n k) (hf : Fits (m - n) k) : ∃ r, (∀ w, fval .sub w a b = r) ∧ ndraw .sub a b = 0 ∧ Is r (rn (m - n)) k := by
  obtain ⟨r, e, h⟩ := is_sub ha hb hf
  exact ⟨r, fval_some (op := .sub) e, ndraw_some (op := .sub) e, h⟩
theorem fmul_is {a b : Nat} {m n k l : Int} (ha : Is a m k) (hb : Is b n l) (hk : -1074 ≤ k + l) (hf : Fits (m * n) (k + l)) : ∃ r, (∀ w, fval .mul w a b = r) ∧ ndraw .mul a b = 0 ∧ Is r (rn (m * n)) (k + l) := by
  obtain ⟨r, e, h⟩ := is_mul ha hb hk hf
  exact ⟨r, fval_some (op := .mul) e, ndraw_some (op := .mul) e, h⟩
theorem Is.at {a : Nat} {m k n l : Int} (h : Is a m k) (hm : m = n) (hk : k = l) : Is a n l := by rw [← hm, ← hk]; exact h

theorem scale_is {x : Nat} {n k e : Int} (w : World) (h : Is x n k) (hn : n.natAbs < 2 ^ 60) (h1 : -1000 ≤ k + e) (h2 : k + e ≤ 900) (h3 : -5000 ≤ e) (h4 : e ≤ 5000) :
    Calls Try.prog 24 #[.float .f64 x, .int .i64 e] w fun e' w' => ∃ r, e' = .returned (.float .f64 r) ∧ w = w' ∧ Is r n (k + e) :=
  (scale_any x e w h.lt (by omega) (by omega)).mono fun _ _ ⟨he, hw⟩ => ⟨_, he, hw, is_scale h e (by omega) (fits_of 60 960 hn (by omega) (by decide))⟩
theorem num_is (m k : Int) (w : World) :
    Calls Try.prog 15 #[.int .i64 m, .int .i64 k] w fun e w' => ∃ x n kk, e = .returned (.float .f64 x) ∧ w = w' ∧ Is x n kk ∧ -80 ≤ kk ∧ kk ≤ -1 ∧ -4503599627370496 ≤ n ∧ n ≤ 4503599627370496 := by
  refine (num_any m k w).mono fun e w' ⟨he, hw⟩ => ?_
  have h1 := Int.emod_nonneg m (show (9007199254740992 : Int) ≠ 0 by decide)
  have h2 := Int.emod_lt_of_pos m (show (0 : Int) < 9007199254740992 by decide)
  have h3 := Int.emod_nonneg k (show (80 : Int) ≠ 0 by decide)
  have h4 := Int.emod_lt_of_pos k (show (0 : Int) < 80 by decide)
  exact ⟨_, m % 9007199254740992 - 4503599627370496, 0 + (k % 80 - 80), he, hw, is_scale (is_ofInt (by omega) (by omega)) _ (by omega) (fits_of 60 960 (by omega) (by omega) (by decide)), by omega, by omega, by omega, by omega⟩

set_option maxRecDepth 100000 in
set_option maxHeartbeats 1000000 in
theorem fpProducts_walk (a b : Int) (w : World) (_h : -9223372036854775808 ≤ a ∧ a ≤ 9223372036854775807) (_h' : -9223372036854775808 ≤ b ∧ b ≤ 9223372036854775807) :
    Calls Try.prog 5 #[.int .i64 a, .int .i64 b] w fun e w' => e = .returned (.bool true) ∧ Below w.heap.size w w' := by
  go_enter Try.func5, Try.ntmps5
  go_wp2_with (go_at_call 14; refine (known_any _).mono ?_; rintro e w' ⟨n, rfl, rfl⟩)
  refine (within_range _ _ _ (by decide) (by decide)).mono ?_
  rintro e w' ⟨u, rfl, hu1, hu2, rfl⟩
  go_wp2_with fail
  refine (within_range _ _ _ (by decide) (by decide)).mono ?_
  rintro e w' ⟨v, rfl, hv1, hv2, rfl⟩
  go_wp2_with fail
  have p1 : 0 ≤ u * v := Int.mul_nonneg hu1 hv1
  have p2 : u * v ≤ 2147483647 * 2147483647 := Int.mul_le_mul (by omega) (by omega) hv1 (by decide)
  have he := rn_err (m := u * v) 62 (by omega)
  have e2 : ((2 ^ (62 - 53) : Nat) : Int) = 512 := by decide
  rw [e2] at he
  refine (twoMul_is _ (is_ofInt (n := u) (by omega) (by omega)) (is_ofInt (n := v) (by omega) (by omega)) (by decide) (by decide) (by omega) (by omega) (by omega)).mono ?_
  rintro e w' ⟨s, t, j, rfl, rfl, hs, ht⟩
  generalize hM : rn (u * v) = M at *
  generalize hD : u * v - M = D at *
  have k1 := conv_is hs (by omega) (by omega)
  have k2 := conv_is ht (by omega) (by omega)
  have k4 : (M + D == u * v) = true := by simp; omega
  have k5 : (M + D != u * v) = false := by simp; omega
  have k6 : decide (M + D = u * v) = true := by simp; omega
  have b1 : -4611686018427387904 ≤ M := by omega
  have b2 : M ≤ 4611686018427387904 := by omega
  have b3 : -512 ≤ D := by omega
  have b4 : D ≤ 512 := by omega
  have p3 : u * v ≤ 4611686014132420609 := p2
  clear hs ht hD hM he e2 p2
  go_wp2_with fail
  refine (within_range _ _ _ (by decide) (by decide)).mono ?_
  rintro e w' ⟨u2, rfl, hu1', hu2', rfl⟩
  go_wp2_with fail
  refine (within_range _ _ _ (by decide) (by decide)).mono ?_
  rintro e w' ⟨v2, rfl, hv1', hv2', rfl⟩
  obtain ⟨r, r1, r2, r3⟩ := fsub_is zero_is (is_ofInt (n := v2) (by omega) (by omega)) (fits_of 60 60 (by omega) (by decide) (by decide))
  rw [Int.zero_sub, rn_small (by omega) (by omega)] at r3
  go_wp2_with fail
  have q1 : 0 ≤ u2 * v2 := Int.mul_nonneg hu1' hv1'
  have q2 : u2 * v2 ≤ 67108863 * 67108863 := Int.mul_le_mul (by omega) (by omega) hv1' (by decide)
  have q3 : u2 * -v2 = -(u2 * v2) := Int.mul_neg _ _
  have hr := rn_small (m := u2 * -v2) (by omega) (by omega)
  refine (twoMul_is _ (is_ofInt (n := u2) (by omega) (by omega)) r3 (by decide) (by decide) (by omega) (by omega) (by omega)).mono ?_
  rintro e w' ⟨s', t', j', rfl, rfl, hs, ht⟩
  rw [hr, Int.sub_self] at ht
  rw [hr, q3] at hs
  have z1 := is_eq ht zero_is
  rw [decide_eq_true rfl] at z1
  have q4 : u2 * v2 ≤ 4503599493152769 := q2
  generalize hM2 : -(u2 * v2) = M2 at *
  have z2 := conv_is hs (by omega) (by omega)
  have z3 : (M2 == 0 - u2 * v2) = true := by simp; omega
  have z4 : (M2 == -(u2 * v2)) = true := by simp; omega
  clear hs ht hr q3 q2 hM2
  go_wp2_with fail
  go_ret
  exact ⟨rfl, below_drew (Below.refl _ _) _⟩

set_option maxRecDepth 100000 in
set_option maxHeartbeats 1000000 in
theorem fpScales_walk (m k a b : Int) (w : World) (_h1 : -9223372036854775808 ≤ m ∧ m ≤ 9223372036854775807) (_h2 : -9223372036854775808 ≤ k ∧ k ≤ 9223372036854775807) (_h3 : -9223372036854775808 ≤ a ∧ a ≤ 9223372036854775807) (_h4 : -9223372036854775808 ≤ b ∧ b ≤ 9223372036854775807) :
    Calls Try.prog 7 #[.int .i64 m, .int .i64 k, .int .i64 a, .int .i64 b] w fun e w' => e = .returned (.bool true) ∧ Below w.heap.size w w' := by
  go_enter Try.func7, Try.ntmps7
  go_wp2_with (go_at_call 14; refine (known_any _).mono ?_; rintro e w' ⟨n, rfl, rfl⟩)
  refine (num_is _ _ _).mono ?_
  rintro e w' ⟨x, n, kk, rfl, rfl, hx, hk1, hk2, hn1, hn2⟩
  go_wp2_with fail
  refine (within_range _ _ _ (by decide) (by decide)).mono ?_
  rintro e w' ⟨u, rfl, hu1, hu2, rfl⟩
  go_wp2_with fail
  refine (within_range _ _ _ (by decide) (by decide)).mono ?_
  rintro e w' ⟨v, rfl, hv1, hv2, rfl⟩
  go_wp2_with fail
  refine (scale_is _ hx (by omega) (by omega) (by omega) (by omega) (by omega)).mono ?_
  rintro e w' ⟨x1, rfl, rfl, hx1⟩
  go_wp2_with fail
  refine (scale_is _ hx1 (by omega) (by omega) (by omega) (by omega) (by omega)).mono ?_
  rintro e w' ⟨x2, rfl, rfl, hx2⟩
  have t1 := is_eq (hx2.at rfl (show _ = kk by omega)) hx
  rw [decide_eq_true rfl] at t1
  go_wp2_with fail
  refine (scale_is _ hx (by omega) (by omega) (by omega) (by omega) (by omega)).mono ?_
  rintro e w' ⟨x3, rfl, rfl, hx3⟩
  go_wp2_with fail
  refine (scale_is _ hx3 (by omega) (by omega) (by omega) (by omega) (by omega)).mono ?_
  rintro e w' ⟨x4, rfl, rfl, hx4⟩
  go_wp2_with fail
  refine (scale_is _ hx (by omega) (by omega) (by omega) (by omega) (by omega)).mono ?_
  rintro e w' ⟨x5, rfl, rfl, hx5⟩
  have t2 := is_eq hx4 (hx5.at rfl (by omega))
  rw [decide_eq_true rfl] at t2
  go_wp2_with fail
  refine (scale_is _ hx (by omega) (by omega) (by omega) (by omega) (by omega)).mono ?_
  rintro e w' ⟨x6, rfl, rfl, hx6⟩
  obtain ⟨r, r1, r2, r3⟩ := fadd_is hx hx (fits_of 60 960 (by omega) (by omega) (by decide))
  rw [rn_small (by omega) (by omega)] at r3
  have t3 := is_eq ((hx6.down 1 (by omega)).at (show _ = n + n by omega) (show _ = kk by omega)) r3
  rw [decide_eq_true rfl] at t3
  go_wp2_with fail
  refine (scale_is _ hx (by omega) (by omega) (by omega) (by omega) (by omega)).mono ?_
  rintro e w' ⟨x7, rfl, rfl, hx7⟩
  have t4 := is_eq (hx7.at rfl (by omega)) hx
  rw [decide_eq_true rfl] at t4
  go_wp2_with fail
  go_ret
  exact ⟨rfl, below_drew (Below.refl _ _) _⟩

set_option maxRecDepth 100000 in
set_option maxHeartbeats 1000000 in
theorem fpHalves_walk (a b k : Int) (w : World) (_h1 : -9223372036854775808 ≤ a ∧ a ≤ 9223372036854775807) (_h2 : -9223372036854775808 ≤ b ∧ b ≤ 9223372036854775807) (_h3 : -9223372036854775808 ≤ k ∧ k ≤ 9223372036854775807) :
    Calls Try.prog 11 #[.int .i64 a, .int .i64 b, .int .i64 k] w fun e w' => e = .returned (.bool true) ∧ Below w.heap.size w w' := by
  go_enter Try.func11, Try.ntmps11
  go_wp2_with (go_at_call 14; refine (known_any _).mono ?_; rintro e w' ⟨n, rfl, rfl⟩)
  refine (within_range _ _ _ (by decide) (by decide)).mono ?_
  rintro e w' ⟨u, rfl, hu1, hu2, rfl⟩
  go_wp2_with fail
  refine (within_range _ _ _ (by decide) (by decide)).mono ?_
  rintro e w' ⟨v, rfl, hv1, hv2, rfl⟩
  go_wp2_with fail
  refine (within_range _ _ _ (by decide) (by decide)).mono ?_
  rintro e w' ⟨z, rfl, hz1, hz2, rfl⟩
  have hx := is_ofInt (n := u) (by omega) (by omega)
  have hy := is_ofInt (n := v) (by omega) (by omega)
  generalize floatOfInt .f64 u = X at *
  generalize floatOfInt .f64 v = Y at *
  have he := rn_err (m := u + v) 54 (by omega)
  have e2 : ((2 ^ (54 - 53) : Nat) : Int) = 2 := by decide
  rw [e2] at he
  have p1 : 0 ≤ u * v := Int.mul_nonneg hu1 hv1
  have p2 : u * v ≤ 9007199254740991 * 9007199254740991 := Int.mul_le_mul (by omega) (by omega) hv1 (by decide)
  have hm := rn_err (m := u * v) 106 (by omega)
  have e3 : ((2 ^ (106 - 53) : Nat) : Int) = 9007199254740992 := by decide
  rw [e3] at hm
  go_wp2_with fail
  refine (twoSum_is _ hx hy (by omega) (by omega) (by decide) (by omega) (by omega) (by omega) (by omega)).mono ?_
  rintro e w' ⟨s, t, j, rfl, rfl, hs, ht⟩
  go_wp2_with fail
  refine (scale_is _ hx (by omega) (by omega) (by omega) (by omega) (by omega)).mono ?_
  rintro e w' ⟨x1, rfl, rfl, hx1⟩
  go_wp2_with fail
  refine (scale_is _ hy (by omega) (by omega) (by omega) (by omega) (by omega)).mono ?_
  rintro e w' ⟨y1, rfl, rfl, hy1⟩
  go_wp2_with fail
  refine (twoSum_is _ hx1 hy1 (by omega) (by omega) (by omega) (by omega) (by omega) (by omega) (by omega)).mono ?_
  rintro e w' ⟨s1, t1, j1, rfl, rfl, hs1, ht1⟩
  go_wp2_with fail
  refine (twoMul_is _ hx hy (by decide) (by decide) (by omega) (by omega) (by omega)).mono ?_
  rintro e w' ⟨p, q, j2, rfl, rfl, hp, hq⟩
  go_wp2_with fail
  refine (scale_is _ hx (by omega) (by omega) (by omega) (by omega) (by omega)).mono ?_
  rintro e w' ⟨x2, rfl, rfl, hx2⟩
  go_wp2_with fail
  refine (scale_is _ hy (by omega) (by omega) (by omega) (by omega) (by omega)).mono ?_
  rintro e w' ⟨y2, rfl, rfl, hy2⟩
  go_wp2_with fail
  refine (twoMul_is _ hx2 hy2 (by omega) (by omega) (by omega) (by omega) (by omega)).mono ?_
  rintro e w' ⟨p1', q1', j3, rfl, rfl, hp1, hq1⟩
  have big : ∀ m : Int, m.natAbs < 2 ^ 110 → ∀ kk : Int, kk ≤ 200 → Fits m kk := fun m hm kk hk => fits_of 110 1010 hm (by omega) (by decide)
  have S1 := is_scale hs (z - 100) (by omega) (big _ (by omega) _ (by omega))
  have S2 := is_scale ht (z - 100) (by omega) (big _ (by omega) _ (by omega))
  have S3 := is_scale hp (2 * (z - 100)) (by omega) (big _ (by omega) _ (by omega))
  have S4 := is_scale hq (2 * (z - 100)) (by omega) (big _ (by omega) _ (by omega))
  have l1 := hs.lt; have l2 := ht.lt; have l3 := hp.lt; have l4 := hq.lt
  have t1 := is_eq hs1 S1
  have t2 := is_eq ht1 S2
  have t3 := is_eq hp1 (S3.at rfl (by omega))
  have t4 := is_eq hq1 (S4.at rfl (by omega))
  rw [decide_eq_true rfl] at t1 t2 t3 t4
  clear S1 S2 S3 S4 big hs ht hp hq hs1 ht1 hp1 hq1 hm he e2 e3 p2 hx hy hx1 hy1 hx2 hy2
  go_wp2_with (go_at_call 24; refine (scale_any _ _ _ (by assumption) (by omega) (by omega)).mono ?_; rintro e w' ⟨rfl, rfl⟩)
  go_ret
  exact ⟨rfl, below_drew (Below.refl _ _) _⟩

theorem mul_lt_of {a b N M : Nat} (ha : a ≤ N) (hb : b ≤ N) (h : N * N < M) : a * b < M := Nat.lt_of_le_of_lt (Nat.mul_le_mul ha hb) h
theorem rn_pow54 : rn (-18014398509481984) = -18014398509481984 := by decide +kernel
theorem rn_past53 : rn (-9007199254740993) = -9007199254740992 := by decide +kernel
theorem sum_is53 {A B : Nat} {p q : Int} (ha : Is A p 0) (hb : Is B q 0) (hp1 : -9007199254740992 ≤ p) (hp2 : p ≤ 9007199254740991) (hq1 : -9007199254740992 ≤ q) (hq2 : q ≤ 9007199254740991) :
    Is (cop .add A B) (rn (p + q)) 0 ∧ Is (sumRest A B) (p + q - rn (p + q)) 0 := by
  have hd : -1 ≤ rn (p + q) - (p + q) ∧ rn (p + q) - (p + q) ≤ 1 := by
    by_cases h : p + q = -18014398509481984
    · rw [h, rn_pow54]; decide
    · have he := rn_err (m := p + q) 54 (by omega)
      have e2 : ((2 ^ (54 - 53) : Nat) : Int) = 2 := by decide
      rw [e2] at he; omega
  by_cases h1 : -9007199254740992 ≤ q + (rn (p + q) - (p + q))
  · exact sum_is ha hb (by omega) (by omega) (by decide) h1 (by omega) (by omega) (by omega)
  · have hq : q = -9007199254740992 := by omega
    have hp : p ≠ -9007199254740992 := by
      intro e; rw [e, hq, show (-9007199254740992 + -9007199254740992 : Int) = -18014398509481984 by decide, rn_pow54] at h1; omega
    have F : ∀ m : Int, m.natAbs < 2 ^ 63 → Fits m 0 := fun m hm => fits_of 63 963 hm (by omega) (by decide)
    obtain ⟨s, e1, hs⟩ := is_add ha hb (F _ (by omega))
    have cs := cop_is (op := .add) e1 hs
    refine ⟨cs, ?_⟩
    generalize hM : rn (p + q) = M at *
    generalize hS : cop .add A B = S at *
    obtain ⟨v, e2, hv⟩ := is_sub cs ha (F _ (by omega))
    rw [show M - p = -9007199254740993 by omega, rn_past53] at hv
    have cv := cop_is (op := .sub) e2 hv
    obtain ⟨x1, e3, hx1⟩ := is_sub cs cv (F _ (by omega))
    rw [show M - -9007199254740992 = p - 1 by omega, rn_small (by omega) (by omega)] at hx1
    have cx1 := cop_is (op := .sub) e3 hx1
    obtain ⟨x2, e4, hx2⟩ := is_sub ha cx1 (F _ (by omega))
    rw [show p - (p - 1) = 1 by omega, rn_small (by decide) (by decide)] at hx2
    have cx2 := cop_is (op := .sub) e4 hx2
    obtain ⟨y, e5, hy⟩ := is_sub hb cv (F _ (by omega))
    rw [show q - -9007199254740992 = 0 by omega, rn_small (by decide) (by decide)] at hy
    have cy := cop_is (op := .sub) e5 hy
    obtain ⟨z, e6, hz⟩ := is_add cx2 cy (F _ (by omega))
    rw [show (1 : Int) + 0 = p + q - M by omega, rn_small (by omega) (by omega)] at hz
    unfold sumRest
    rw [hS]
    exact cop_is (op := .add) e6 hz

set_option maxRecDepth 100000 in
set_option maxHeartbeats 1000000 in
theorem fpSwaps_walk (a b : Int) (w : World) (_h1 : -9223372036854775808 ≤ a ∧ a ≤ 9223372036854775807) (_h2 : -9223372036854775808 ≤ b ∧ b ≤ 9223372036854775807) :
    Calls Try.prog 12 #[.int .i64 a, .int .i64 b] w fun e w' => e = .returned (.bool true) ∧ Below w.heap.size w w' := by
  go_enter Try.func12, Try.ntmps12
  go_wp2_with (go_at_call 14; refine (known_any _).mono ?_; rintro e w' ⟨n, rfl, rfl⟩)
  refine (within_range _ _ _ (by decide) (by decide)).mono ?_
  rintro e w' ⟨u, rfl, hu1, hu2, rfl⟩
  go_wp2_with fail
  refine (within_range _ _ _ (by decide) (by decide)).mono ?_
  rintro e w' ⟨v, rfl, hv1, hv2, rfl⟩
  go_wp2_with fail
  have hx := is_ofInt (n := u - 9007199254740992) (by omega) (by omega)
  have hy := is_ofInt (n := v - 9007199254740992) (by omega) (by omega)
  generalize floatOfInt .f64 (u - 9007199254740992) = X at *
  generalize floatOfInt .f64 (v - 9007199254740992) = Y at *
  have p3 : (u - 9007199254740992) * (v - 9007199254740992) = (v - 9007199254740992) * (u - 9007199254740992) := Int.mul_comm _ _
  have p1 : ((u - 9007199254740992) * (v - 9007199254740992)).natAbs < 2 ^ 107 := by
    rw [Int.natAbs_mul]
    exact mul_lt_of (show (u - 9007199254740992).natAbs ≤ 2 ^ 53 by omega) (show (v - 9007199254740992).natAbs ≤ 2 ^ 53 by omega) (by decide)
  have hm := rn_err (m := (u - 9007199254740992) * (v - 9007199254740992)) 107 p1
  have e3 : ((2 ^ (107 - 53) : Nat) : Int) = 18014398509481984 := by decide
  rw [e3] at hm
  have A1 := sum_is53 hx hy (by omega) (by omega) (by omega) (by omega)
  have A2 := sum_is53 hy hx (by omega) (by omega) (by omega) (by omega)
  have p1' : ((v - 9007199254740992) * (u - 9007199254740992)).natAbs < 2 ^ 107 := by rw [← p3]; exact p1
  have hm' : 2 * (rn ((v - 9007199254740992) * (u - 9007199254740992)) - (v - 9007199254740992) * (u - 9007199254740992)) ≤ 18014398509481984 ∧ -18014398509481984 ≤ 2 * (rn ((v - 9007199254740992) * (u - 9007199254740992)) - (v - 9007199254740992) * (u - 9007199254740992)) := by rw [← p3]; exact hm
  have P3 := Lib.hid p3
  clear p3 e3
  have C1 : ∀ w, Calls Try.prog 27 #[.float .f64 X, .float .f64 Y] w (IsTwo _ _ 0 w) := fun w => (twoSum_any X Y w).mono fun _ _ h => h.is A1.1 A1.2
  have C1 := Lib.hid C1
  have C2 : ∀ w, Calls Try.prog 27 #[.float .f64 Y, .float .f64 X] w (IsTwo _ _ 0 w) := fun w => (twoSum_any Y X w).mono fun _ _ h => h.is A2.1 A2.2
  have C2 := Lib.hid C2
  refine (C1.out _).mono ?_
  rintro e w' ⟨s, s2, j, rfl, rfl, hs, hs2⟩
  go_wp2_with fail
  refine (C2.out _).mono ?_
  rintro e w' ⟨t, t2, j', rfl, rfl, ht, ht2⟩
  go_wp2_with fail
  refine (twoMul_is _ hx hy (by decide) (by decide) (by omega) (by omega) (by omega)).mono ?_
  rintro e w' ⟨p, p2, j2, rfl, rfl, hp, hp2⟩
  go_wp2_with fail
  refine (twoMul_is _ hy hx (by decide) (by decide) (by omega) (by omega) (by omega)).mono ?_
  rintro e w' ⟨q, q2, j3, rfl, rfl, hq, hq2⟩
  have t1 := is_eq hs (ht.at (by rw [Int.add_comm]) rfl)
  have t3 := is_eq hs2 (ht2.at (by rw [Int.add_comm]) rfl)
  have t4 := is_eq hp (hq.at (by rw [← P3.out]) rfl)
  have t5 := is_eq hp2 (hq2.at (by rw [← P3.out]) rfl)
  obtain ⟨r, r1, r2, r3⟩ := fadd_is hx hy (fits_of 60 960 (by omega) (by omega) (by decide))
  have t6 := is_eq hs r3
  rw [decide_eq_true rfl] at t1 t3 t4 t5 t6
  clear hs hs2 ht ht2 hp hp2 hq hq2 P3 p1 hm p1' hm' A1 A2 C1 C2
  go_wp2_with fail
  go_ret
  exact ⟨rfl, below_drew (Below.refl _ _) _⟩

end Go.Proofs.Ytjeahlknhcbiiaa
