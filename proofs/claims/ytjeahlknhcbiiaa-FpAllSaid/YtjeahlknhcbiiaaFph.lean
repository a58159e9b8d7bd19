/-
  The laws of the next numbers, walked.
-/
import Derived.Test.YtjeahlknhcbiiaaFpg
import Derived.Test.YtjeahlknhcbiiaaMh
namespace Go.Proofs.Ytjeahlknhcbiiaa
open Go.RowKit
open Ieee (double)
attribute [local go_sem] alloc_drewN setCell_drewN call_bits call_frombits ord_lt ord_eq ord_gt ord_ne ord_le ord_ge eqB_self run_fadd run_fsub run_fmul run_fquo call_fma run_fneg

theorem upB_lt {x : Nat} (hx : x < 18446744073709551616) : upB x < 18446744073709551616 := by
  cases h : isN x
  · exact (up_key hx h).2.2
  · unfold upB; rw [if_pos h]; decide
theorem downB_lt {x : Nat} (hx : x < 18446744073709551616) : downB x < 18446744073709551616 := by
  cases h : isN x
  · exact (down_key hx h).2.2
  · unfold downB; rw [if_pos h]; decide
theorem ltB_parts {x y : Nat} (h : ltB x y = true) : isN x = false ∧ isN y = false ∧ key x < key y := by
  unfold ltB at h
  cases hx : isN x <;> cases hy : isN y <;> simp [hx, hy] at h
  exact ⟨rfl, rfl, h⟩
theorem inf_of_key {y : Nat} (hN : isN y = false) (h : key y = infR) : y % p63 = infR := by
  have := isN_false hN
  rw [key_eq] at h; unfold sgd infR at *; split at h <;> omega
theorem key_of_not_inf {y : Nat} (hN : isN y = false) (h : y % p63 ≠ infR) : -(infR : Int) < key y ∧ key y < infR := by
  have := isN_false hN
  rw [key_eq]; unfold sgd; split <;> omega
theorem orders {x y : Nat} (hx : x < 18446744073709551616) (hy : y < 18446744073709551616) (h : ltB x y = true) :
    leB (upB x) y = true ∧ leB x (downB y) = true ∧ (y % p63 ≠ infR → ltB (upB x) (upB y) = true) := by
  obtain ⟨nx, ny, k⟩ := ltB_parts h
  have kx := key_abs nx; have ky := key_abs ny
  obtain ⟨u1, u2, u3⟩ := up_key hx nx
  obtain ⟨d1, d2, d3⟩ := down_key hy ny
  obtain ⟨v1, v2, v3⟩ := up_key hy ny
  rw [if_neg (by omega)] at u1 d1
  refine ⟨?_, ?_, fun hi => ?_⟩
  · unfold leB; rw [u2, ny, u1]; simp; omega
  · unfold leB; rw [nx, d2, d1]; simp; omega
  · have := key_of_not_inf ny hi
    rw [if_neg (by omega)] at v1
    unfold ltB; rw [u2, v2, u1, v1]; simp; omega

set_option maxRecDepth 100000 in
set_option maxHeartbeats 1000000 in
theorem fpOrders_walk (a b : Nat) (n : Int) (w : World) (ha : a < 18446744073709551616) (hb : b < 18446744073709551616) (_h3 : -9223372036854775808 ≤ n ∧ n ≤ 9223372036854775807) :
    Calls Try.prog 9 #[.float .f64 a, .float .f64 b, .int .i64 n] w fun e w' => e = .returned (.bool true) ∧ Below w.heap.size w w' := by
  have hu := upB_lt ha
  have huu := upB_lt hu
  have hub := upB_lt hb
  go_enter Try.func9, Try.ntmps9
  go_wp2_with (go_at_call 14; refine (known_any _).mono ?_; rintro e w' ⟨n, rfl, rfl⟩)
  refine (within_range _ _ _ (by decide) (by decide)).mono ?_
  rintro e w' ⟨u, rfl, hu1, hu2, rfl⟩
  have h01 : u = 0 ∨ u = 1 := by omega
  rcases h01 with rfl | rfl
  · cases hl : ltB a (upB a)
    · go_wp2_with (first | (go_at_call 18; refine (up_any _ _ (by assumption)).mono ?_; rintro e w' ⟨rfl, rfl⟩))
      go_ret
      exact ⟨rfl, below_drew (Below.refl _ _) _⟩
    · obtain ⟨o1, o2, o3⟩ := orders ha hu hl
      have o4 := (ltB_parts hl).2.1
      by_cases hi : upB a % p63 = infR
      · have c1 : decide (upB a % p63 = infR) = true := decide_eq_true hi
        clear o3 hi
        cases hc : ltB (upB a) (upB (upB a))
        all_goals
          go_wp2_with (first | (go_at_call 18; refine (up_any _ _ (by assumption)).mono ?_; rintro e w' ⟨rfl, rfl⟩) | (go_at_call 20; refine (down_any _ _ (by assumption)).mono ?_; rintro e w' ⟨rfl, rfl⟩) | (go_at_call 34; refine (isinf_any _ _ (by assumption)).mono ?_; rintro e w' ⟨rfl, rfl⟩))
          go_ret
          exact ⟨rfl, below_drew (Below.refl _ _) _⟩
      · have c1 := o3 hi
        clear o3 hi
        go_wp2_with (first | (go_at_call 18; refine (up_any _ _ (by assumption)).mono ?_; rintro e w' ⟨rfl, rfl⟩) | (go_at_call 20; refine (down_any _ _ (by assumption)).mono ?_; rintro e w' ⟨rfl, rfl⟩) | (go_at_call 34; refine (isinf_any _ _ (by assumption)).mono ?_; rintro e w' ⟨rfl, rfl⟩))
        go_ret
        exact ⟨rfl, below_drew (Below.refl _ _) _⟩
  · cases hl : ltB a b
    · go_wp2_with fail
      go_ret
      exact ⟨rfl, below_drew (Below.refl _ _) _⟩
    · obtain ⟨o1, o2, o3⟩ := orders ha hb hl
      by_cases hi : b % p63 = infR
      · have c1 : decide (b % p63 = infR) = true := decide_eq_true hi
        clear o3 hi
        cases hc : ltB (upB a) (upB b)
        all_goals
          go_wp2_with (first | (go_at_call 18; refine (up_any _ _ (by assumption)).mono ?_; rintro e w' ⟨rfl, rfl⟩) | (go_at_call 20; refine (down_any _ _ (by assumption)).mono ?_; rintro e w' ⟨rfl, rfl⟩) | (go_at_call 34; refine (isinf_any _ _ (by assumption)).mono ?_; rintro e w' ⟨rfl, rfl⟩))
          go_ret
          exact ⟨rfl, below_drew (Below.refl _ _) _⟩
      · have c1 := o3 hi
        clear o3 hi
        go_wp2_with (first | (go_at_call 18; refine (up_any _ _ (by assumption)).mono ?_; rintro e w' ⟨rfl, rfl⟩) | (go_at_call 20; refine (down_any _ _ (by assumption)).mono ?_; rintro e w' ⟨rfl, rfl⟩) | (go_at_call 34; refine (isinf_any _ _ (by assumption)).mono ?_; rintro e w' ⟨rfl, rfl⟩))
        go_ret
        exact ⟨rfl, below_drew (Below.refl _ _) _⟩

theorem sub_zero_key {r : Nat} (hN : isN r = false) : Ieee.double.sub 0 r = some (cop .sub 0 r) ∧ isN (cop .sub 0 r) = false ∧ key (cop .sub 0 r) = - key r := by
  have hr := isN_false hN
  by_cases hf : r % p63 < infR
  · have e := sub_fin (x := 0) (y := r) (by decide) hf
    have k := sub_key (x := 0) (y := r) (by decide) hf e
    have c : cop .sub 0 r = _ := cop_some (op := .sub) e
    rw [canon_num k.2.1] at c
    rw [c]
    refine ⟨e, k.2.1, ?_⟩
    rw [k.1, show V 0 = 0 by decide, Int.zero_sub, RK_neg, RK_V (Nat.le_of_lt hf)]
  · have hi : r % p63 = infR := by omega
    have e : Ieee.double.sub 0 r = some (double.word (!neg r) infR) := by
      unfold Ieee.Format.sub; rw [read_inf hi]; rfl
    have c : cop .sub 0 r = _ := cop_some (op := .sub) e
    rw [c, e, key_eq r, hi]
    generalize neg r = s
    cases s <;> decide

theorem U_gap {r : Nat} : U (r + 1) = U r + 2 ^ (r / p52 - 1) := by
  have hp : 0 < p52 := by decide
  have hm : r % p52 < p52 := Nat.mod_lt _ hp
  have hd := Nat.div_add_mod r p52
  unfold U
  by_cases h1 : r + 1 < p52
  · rw [if_pos h1, if_pos (by omega), Nat.div_eq_of_lt (by omega)]
  · rw [if_neg h1]
    by_cases h2 : r < p52
    · have e : r + 1 = p52 := by omega
      rw [if_pos h2, e, Nat.div_self hp, Nat.mod_self, Nat.div_eq_of_lt h2]
      simp; omega
    · rw [if_neg h2]
      by_cases h3 : r % p52 = p52 - 1
      · have e : r + 1 = p52 * (r / p52 + 1) := by rw [Nat.mul_add]; omega
        have a1 : (r + 1) / p52 = r / p52 + 1 := by rw [e, Nat.mul_div_cancel_left _ hp]
        have a2 : (r + 1) % p52 = 0 := by rw [e, Nat.mul_mod_right]
        have h1r : 1 ≤ r / p52 := (Nat.one_le_div_iff hp).2 (by omega)
        rw [a1, a2, h3, show r / p52 + 1 - 1 = (r / p52 - 1) + 1 by omega, Nat.pow_succ]
        have : p52 + (p52 - 1) + 1 = p52 * 2 := by omega
        generalize 2 ^ (r / p52 - 1) = g at *
        rw [Nat.add_zero, show p52 * (g * 2) = (p52 * 2) * g by rw [Nat.mul_comm g 2, Nat.mul_assoc], ← this, Nat.add_mul (p52 + (p52 - 1)) 1 g, Nat.one_mul]
      · have a1 : (r + 1) / p52 = r / p52 := by
          apply Nat.div_eq_of_lt_le
          · rw [Nat.mul_comm]; omega
          · rw [Nat.add_mul, Nat.mul_comm (r / p52)]; omega
        have a2 : (r + 1) % p52 = r % p52 + 1 := by
          have := Nat.div_add_mod (r + 1) p52; rw [a1] at this; omega
        rw [a1, a2, ← Nat.add_assoc, Nat.add_mul, Nat.one_mul]

theorem log2_pow (a : Nat) : (2 ^ a).log2 = a := by
  rw [Nat.log2_eq_iff (by have := Nat.two_pow_pos a; omega)]; exact ⟨Nat.le_refl _, Nat.pow_lt_pow_right (by decide) (by omega)⟩
/-- By 2. -/
theorem div_two {x : Nat} (hx : x % p63 < infR) (h0 : x % p63 ≠ 0) : Ieee.double.div x 4611686018427387904 = some (double.word (neg x) (rungOf (U (x % p63)) (-1075))) := by
  obtain ⟨m, i, e1, hi, e2⟩ := read_fin hx
  have e3 : double.read 4611686018427387904 = .number false (2 ^ 52) (-51) := by decide +kernel
  have hm0 : m ≠ 0 := fun e => by
    rw [e, Nat.zero_mul] at e2
    exact h0 (U_inj (e2.symm.trans U_zero.symm))
  have hl : m.log2 ≤ 52 := by
    have hU : m < 2 ^ 53 := by
      unfold Ieee.Format.read at e1
      have c1 : double.signWeight = p63 := by decide
      have c2 : double.binade = p52 := by decide
      have c3 : double.infRung = infR := by decide
      have c4 : (2 : Nat) ^ 53 = 2 * p52 := by decide
      simp only [c1, c2, c3] at e1
      by_cases g : x % p63 < p52
      · rw [if_pos g] at e1; injection e1 with _ q _; omega
      · rw [if_neg g, if_pos hx] at e1; injection e1 with _ q _
        have : x % p63 % p52 < p52 := Nat.mod_lt _ (by decide)
        omega
    have a := pow_log_le hm0
    have : 2 ^ m.log2 < 2 ^ 53 := by omega
    have := (Nat.pow_lt_pow_iff_right (a := 2) (by decide)).1 this
    omega
  unfold Ieee.Format.div
  rw [e1, e3]
  have c5 : double.fractionBits + 2 = 54 := by decide
  simp only [Ieee.Datum.quotient, c5]
  rw [if_neg (by decide)]
  simp only [Option.map_some, Ieee.Format.write, nearest_eq, log2_pow]
  obtain ⟨M, hM⟩ : ∃ M, M + 52 = 54 + 52 - m.log2 := ⟨54 - m.log2, by omega⟩
  rw [← hM, Nat.shiftLeft_eq, Nat.pow_add, ← Nat.mul_assoc, Nat.mul_div_cancel _ (Nat.two_pow_pos _), Nat.mul_mod_left]
  have hs : (neg x ^^ false) = neg x := by cases neg x <;> rfl
  rw [hs]
  congr 2
  rw [show (((0 : Nat) != 0).toNat) = 0 from rfl, Nat.add_zero]
  have r1 := rungOf_scale m (i - 1) (M + 1)
  have r2 := rungOf_scale m (i - 1) (i + 1074).toNat
  rw [show i - 1 - ((i + 1074).toNat : Int) = -1075 by omega, e2] at r2
  rw [r2, ← r1, show 2 * (m * 2 ^ M) = m * 2 ^ (M + 1) by rw [Nat.pow_succ, Nat.mul_comm 2, Nat.mul_assoc]]
  congr 1
  omega

theorem rnN_two_pow (k : Nat) : rnN (2 ^ k) = 2 ^ k := by
  unfold rnN
  rw [log2_pow]
  by_cases h : k ≤ 52
  · rw [show k - 52 = 0 by omega, rne_zero]; simp
  · have e : (2 : Nat) ^ k = 2 ^ 52 * 2 ^ (k - 52) := by rw [← Nat.pow_add]; congr 1; omega
    have := rne_scale (2 ^ 52) 0 (k - 52)
    rw [Nat.zero_add] at this
    rw [e, this, rne_zero]
/-- What a key stands for. -/
def W (k : Int) : Int := if k < 0 then -(U k.natAbs : Int) else U k.natAbs
theorem V_key (x : Nat) : V x = W (key x) := by
  rw [key_eq]; unfold V W sgd
  cases neg x
  · simp only [Bool.false_eq_true, if_false]; rw [if_neg (by omega), Int.natAbs_natCast]
  · simp only [if_true, Int.natAbs_neg, Int.natAbs_natCast]
    by_cases h0 : x % p63 = 0
    · rw [h0, U_zero]; simp
    · rw [if_pos (by omega)]
theorem W_gap {k : Int} (h1 : -(infR : Int) < k) (h2 : k + 1 < infR) : ∃ j : Nat, W (k + 1) - W k = (2 ^ j : Nat) ∧ ∃ r, r < infR ∧ 2 ^ j ≤ U r := by
  unfold W
  by_cases h : k < 0
  · have e : k.natAbs = (k + 1).natAbs + 1 := by omega
    have g := @U_gap (k + 1).natAbs
    refine ⟨(k + 1).natAbs / p52 - 1, ?_, k.natAbs, by omega, by rw [e, g]; omega⟩
    rw [if_pos h, e, g]
    by_cases h3 : k + 1 < 0
    · rw [if_pos h3]; omega
    · rw [if_neg h3, show (k + 1).natAbs = 0 by omega, U_zero]; omega
  · have e : (k + 1).natAbs = k.natAbs + 1 := by omega
    have g := @U_gap k.natAbs
    refine ⟨k.natAbs / p52 - 1, ?_, (k + 1).natAbs, by omega, by rw [e, g]; omega⟩
    rw [if_neg h, if_neg (by omega), e, g]; omega

theorem is_self {x : Nat} (hx : x < 18446744073709551616) (hf : x % p63 < infR) : Is x (V x) (-1074) := by
  refine ⟨hx, hf, by decide, ?_⟩
  rw [show ((-1074 : Int) + 1074).toNat = 0 by decide, Nat.pow_zero]; simp

theorem mid_two {x : Nat} (hx : x < 18446744073709551616) (hf : x % p63 < infR) (hu : key x + 1 < infR) :
    ∃ D h m, Ieee.double.sub (upB x) x = some D ∧ Ieee.double.div D 4611686018427387904 = some h ∧ Ieee.double.add x h = some m ∧ isN m = false ∧ (key m = key x ∨ key m = key (upB x)) := by
  have hN : isN x = false := isN_of_le (Nat.le_of_lt hf)
  obtain ⟨u1, u2, u3⟩ := up_key hx hN
  have ka := (fin_key hN).1 hf
  rw [if_neg (by omega)] at u1
  have uf : upB x % p63 < infR := (fin_key u2).2 (by omega)
  obtain ⟨j, hj, r, hr, hjr⟩ := W_gap ka.1 hu
  rw [← u1, ← V_key, ← V_key] at hj
  have hG := rnN_two_pow j
  have hp : 0 < 2 ^ j := Nat.two_pow_pos _
  generalize 2 ^ j = G at *
  have hfit : rungOf (G) (-1074) < infR := Nat.lt_of_le_of_lt (rungOf_le (Nat.le_of_lt hr) hjr) hr
  obtain ⟨D, e1, hD⟩ := is_sub (is_self u3 uf) (is_self hx hf) (by rw [hj]; unfold Fits; rw [Int.natAbs_natCast]; exact hfit)
  have hrn : rn (G : Int) = (G : Int) := by
    unfold rn; rw [if_neg (by omega), Int.natAbs_natCast, hG]
  rw [hj, hrn] at hD
  obtain ⟨v1, v2⟩ := U_of_V hD
  rw [Int.natAbs_natCast, show ((-1074 : Int) + 1074).toNat = 0 by decide, Nat.pow_zero, Nat.mul_one] at v1
  have hD0 : D % p63 ≠ 0 := fun e => by rw [e, U_zero] at v1; omega
  have hDn : neg D = false := by rw [v2 (by omega)]; simp
  have e2 := div_two hD.2.1 hD0
  rw [v1, hDn] at e2
  have le1 : rungOf (G) (-1075) ≤ rungOf (G) (-1074) := by
    have := rungOf_scale (G) (-1074) 1
    rw [show (-1074 : Int) - ((1 : Nat) : Int) = -1075 by decide] at this
    rw [← this]; exact rungOf_mono _ (by omega)
  have hle := rungOf_le_inf (G) (-1075)
  have hhf : double.word false (rungOf (G) (-1075)) % p63 < infR := by rw [word_mod _ hle]; omega
  have kD : key D = rungOf (G) (-1074) := by
    have : D % p63 = rungOf (G) (-1074) := by rw [← v1, rungOf_U (Nat.le_of_lt hD.2.1)]
    rw [key_eq, hDn, this]; rfl
  have kh : key (double.word false (rungOf (G) (-1075))) = rungOf (G) (-1075) := by rw [word_key _ hle]; rfl
  generalize double.word false (rungOf (G) (-1075)) = h at *
  have Vh1 : V h ≤ V D := V_le.2 (by rw [kh, kD]; omega)
  have Vh0 : 0 ≤ V h := by
    have := (V_le (x := 0) (y := h)).2 (by rw [kh, show key 0 = 0 by decide]; omega)
    rwa [show V 0 = 0 by decide] at this
  have VD : V D = (G : Int) := by rw [hD.2.2.2, show ((-1074 : Int) + 1074).toNat = 0 by decide, Nat.pow_zero]; simp
  have e3 := add_fin hf hhf
  have k3 := add_key hf hhf e3
  refine ⟨D, h, _, e1, e2, e3, k3.2.1, ?_⟩
  have m1 := RK_mono (-1074) (show V x ≤ V x + V h by omega)
  have m2 := RK_mono (-1074) (show V x + V h ≤ V (upB x) by omega)
  rw [RK_V (Nat.le_of_lt hf)] at m1
  rw [RK_V (Nat.le_of_lt uf)] at m2
  rw [k3.1]
  omega

theorem eqB_of_key {x y : Nat} (h1 : isN x = false) (h2 : isN y = false) : eqB x y = decide (key x = key y) := by unfold eqB; rw [h1, h2]; rfl
theorem ltB_of_key {x y : Nat} (h1 : isN x = false) (h2 : isN y = false) : ltB x y = decide (key x < key y) := by unfold ltB; rw [h1, h2]; rfl
theorem leB_of_key {x y : Nat} (h1 : isN x = false) (h2 : isN y = false) : leB x y = decide (key x ≤ key y) := by unfold leB; rw [h1, h2]; rfl

set_option maxRecDepth 100000 in
set_option maxHeartbeats 2000000 in
theorem fpNext_walk (m k n : Int) (w : World) (_h1 : -9223372036854775808 ≤ m ∧ m ≤ 9223372036854775807) (_h2 : -9223372036854775808 ≤ k ∧ k ≤ 9223372036854775807) (_h3 : -9223372036854775808 ≤ n ∧ n ≤ 9223372036854775807) :
    Calls Try.prog 6 #[.int .i64 m, .int .i64 k, .int .i64 n] w fun e w' => e = .returned (.bool true) ∧ Below w.heap.size w w' := by
  go_enter Try.func6, Try.ntmps6
  go_wp2_with (go_at_call 14; refine (known_any _).mono ?_; rintro e w' ⟨d0, rfl, rfl⟩)
  refine (num_is _ _ _).mono ?_
  rintro e w' ⟨x, N, kk, rfl, rfl, hx, hk1, hk2, hn1, hn2⟩
  have hxl := hx.lt
  have hN := hx.num
  have hf := hx.fin
  have hb : key x + 1 < infR := by
    have big := is_ofInt (n := 4503599627370496) (by decide) (by decide)
    have : V x ≤ V (floatOfInt .f64 4503599627370496) := by
      rw [hx.2.2.2, big.2.2.2, show ((0 : Int) + 1074).toNat = (kk + 1074).toNat + (-kk).toNat by omega, Nat.pow_add, Int.natCast_mul, Int.mul_comm ((2 ^ (kk + 1074).toNat : Nat) : Int), ← Int.mul_assoc]
      apply Int.mul_le_mul_of_nonneg_right _ (Int.natCast_nonneg _)
      have hp : 1 ≤ 2 ^ (-kk).toNat := Nat.two_pow_pos _
      generalize 2 ^ (-kk).toNat = G at *
      omega
    have k1 := V_le.1 this
    have k2 : key (floatOfInt .f64 4503599627370496) + 1 < infR := by decide +kernel
    omega
  obtain ⟨u1, u2, u3⟩ := up_key hxl hN
  obtain ⟨d1, d2, d3⟩ := down_key hxl hN
  have ka := (fin_key hN).1 hf
  rw [if_neg (by omega)] at u1 d1
  obtain ⟨ud1, ud2, ud3⟩ := down_key u3 u2
  obtain ⟨du1, du2, du3⟩ := up_key d3 d2
  rw [if_neg (by omega)] at ud1 du1
  obtain ⟨D, h, mm, e1, e2, e3, e4, e5⟩ := mid_two hxl hf hb
  have f1 : ∀ w, fval .sub w (upB x) x = D := fval_some (op := .sub) e1
  have f2 : ndraw .sub (upB x) x = 0 := ndraw_some (op := .sub) e1
  have f3 : ∀ w, fval .quo w D 4611686018427387904 = h := fval_some (op := .quo) e2
  have f4 : ndraw .quo D 4611686018427387904 = 0 := ndraw_some (op := .quo) e2
  have f5 : ∀ w, fval .add w x h = mm := fval_some (op := .add) e3
  have f6 : ndraw .add x h = 0 := ndraw_some (op := .add) e3
  have c1 : ltB x (upB x) = true := by rw [ltB_of_key hN u2, decide_eq_true (by omega)]
  have c2 : ltB (downB x) x = true := by rw [ltB_of_key d2 hN, decide_eq_true (by omega)]
  have c3 : eqB (downB (upB x)) x = true := by rw [eqB_of_key ud2 hN, decide_eq_true (by omega)]
  have c4 : eqB (upB (downB x)) x = true := by rw [eqB_of_key du2 hN, decide_eq_true (by omega)]
  have c5 : eqB mm x = true ∨ (eqB mm x = false ∧ eqB mm (upB x) = true) := by
    rw [eqB_of_key e4 hN, eqB_of_key e4 u2]
    by_cases g : key mm = key x
    · exact .inl (decide_eq_true g)
    · exact .inr ⟨decide_eq_false g, decide_eq_true (by omega)⟩
  clear e1 e2 e3 e4 e5 hx hn1 hn2 hk1 hk2 ka hb hf u1 d1 ud1 du1 ud2 du2 ud3 du3 u2 d2
  -- the rare one
  have hrl := rareB_lt (n % 10)
  generalize hR : rareB (n % 10) = r at *
  cases hrN : isN r
  · obtain ⟨ru1, ru2, ru3⟩ := up_key hrl hrN
    obtain ⟨rd1, rd2, rd3⟩ := down_key hrl hrN
    obtain ⟨s1, s2, s3⟩ := sub_zero_key hrN
    have sl := cop_lt .sub 0 r
    obtain ⟨su1, su2, su3⟩ := up_key sl s2
    obtain ⟨t1, t2, t3⟩ := sub_zero_key rd2
    have g1 : ∀ w, fval .sub w 0 r = cop .sub 0 r := fval_some (op := .sub) s1
    have g2 : ndraw .sub 0 r = 0 := ndraw_some (op := .sub) s1
    have g3 : ∀ w, fval .sub w 0 (downB r) = cop .sub 0 (downB r) := fval_some (op := .sub) t1
    have g4 : ndraw .sub 0 (downB r) = 0 := ndraw_some (op := .sub) t1
    have rk := key_abs hrN
    have b1 : leB r (upB r) = true := by
      rw [leB_of_key hrN ru2, decide_eq_true]; rw [ru1]; split <;> omega
    have b2 : leB (downB r) r = true := by
      rw [leB_of_key rd2 hrN, decide_eq_true]; rw [rd1]; split <;> omega
    have b3 : eqB (upB (cop .sub 0 r)) (cop .sub 0 (downB r)) = true := by
      rw [eqB_of_key su2 t2, decide_eq_true]
      rw [su1, t3, rd1, s3]
      split <;> split <;> omega
    clear ru1 ru2 rd1 rd2 s1 s2 s3 su1 su2 su3 t1 t2 t3 rk
    rcases c5 with c5 | ⟨c5, c6⟩
    all_goals
      go_wp2_with (first | (go_at_call 18; refine (up_any _ _ (by assumption)).mono ?_; rintro e w' ⟨rfl, rfl⟩) | (go_at_call 20; refine (down_any _ _ (by assumption)).mono ?_; rintro e w' ⟨rfl, rfl⟩) | (go_at_call 16; refine (rare_any _ _).mono ?_; rintro e w1 ⟨rfl, hb1⟩))
      go_ret
      exact ⟨rfl, below_drew (below_undrew hb1) _⟩
  · have q1 : upB r = nanB := by unfold upB; rw [if_pos hrN]
    have q2 : downB r = nanB := by unfold downB; rw [if_pos hrN]
    have q3 : isN nanB = true := by decide
    rcases c5 with c5 | ⟨c5, c6⟩
    all_goals
      go_wp2_with (first | (go_at_call 18; refine (up_any _ _ (by assumption)).mono ?_; rintro e w' ⟨rfl, rfl⟩) | (go_at_call 20; refine (down_any _ _ (by assumption)).mono ?_; rintro e w' ⟨rfl, rfl⟩) | (go_at_call 16; refine (rare_any _ _).mono ?_; rintro e w1 ⟨rfl, hb1⟩))
      go_ret
      exact ⟨rfl, below_undrew hb1⟩

end Go.Proofs.Ytjeahlknhcbiiaa
