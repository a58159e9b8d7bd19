/-
  Scaling by a power of two, sums and products with what is left, and the tests of fp, the program's and the document's: what each call gives, of the bits that came in.
  Scaling by a power of two: what the library's call gives, of a finite number that is not 0.
  Numbers made of whole numbers, rare ones, and whether two are the same: what each call gives.
-/
import Derived.Test.YtbepaoliboooaaaGj
import Derived.Test.YtbepaoliboooaaaGb
import Derived.Test.YtbepaoliboooaaaGc
namespace Go.Proofs.Ytbepaoliboooaaa
open Go.RowKit
attribute [local go_sem] alloc_drewN setCell_drewN call_bits call_frombits ord_lt ord_eq ord_gt ord_ne ord_le ord_ge eqB_self run_fadd run_fsub run_fmul run_fquo

theorem max_lt (x : Nat) : ltB 9218868437227405311 (x % 9223372036854775808) = decide (x % p63 = infR) := by
  unfold ltB
  have h1 : isN (x % 9223372036854775808) = isN x := by unfold isN p63; rw [Nat.mod_mod]
  have h2 : key (x % 9223372036854775808) = ((x % p63 : Nat) : Int) := by
    unfold key p63; rw [Nat.mod_mod, if_neg (by omega)]
  have h3 : key 9218868437227405311 = 9218868437227405311 := by decide
  have h4 : isN 9218868437227405311 = false := by decide
  rw [h1, h2, h3, h4]
  unfold isN infR
  rw [Bool.eq_iff_iff]; simp; omega

theorem isinf_any (x : Nat) (w : World) (hx : x < 18446744073709551616) : Calls Try.prog 70 #[.float .f64 x, .int .i64 0] w fun e w' => e = .returned (.bool (decide (x % p63 = infR))) ∧ w = w' := by
  have hm := max_lt x
  have H := Lib.hid hm
  clear hm
  go_enter Try.func70, Try.ntmps70
  go_wp2_with (go_at_call 45; refine (abs_any _ _ hx).mono ?_; rintro e w' ⟨rfl, rfl⟩)
  go_ret
  exact ⟨ret_bool H.out, rfl⟩

theorem norm_lt {x : Nat} (h : isN x = false) : ltB (x % 9223372036854775808) 4503599627370496 = decide (x % p63 < p52) := by
  unfold ltB
  have h1 : isN (x % 9223372036854775808) = isN x := by unfold isN p63; rw [Nat.mod_mod]
  have h2 : key (x % 9223372036854775808) = ((x % p63 : Nat) : Int) := by
    unfold key p63; rw [Nat.mod_mod, if_neg (by omega)]
  have h3 : key 4503599627370496 = 4503599627370496 := by decide
  have h4 : isN 4503599627370496 = false := by decide
  rw [h1, h2, h3, h4, h]
  rw [Bool.eq_iff_iff]; unfold p52; simp; omega

theorem normalize_small (x : Nat) (w : World) (hx : x < 18446744073709551616) (h0 : x % p63 ≠ 0) (h : x % p63 < p52) :
    Calls Try.prog 72 #[.float .f64 x] w fun e w' => e = .returned (.tuple #[.float .f64 (Ieee.double.word (neg x) (rungOf (x % p63) (-1022))), .int .i64 (-52)]) ∧ w = w' := by
  have hN : isN x = false := isN_of_le (by unfold p52 at h; unfold infR; omega)
  have hb := norm_lt hN
  have hm := (mul_norm h0 h).1
  have f1 : ∀ w, fval .mul w x 4841369599423283200 = Ieee.double.word (neg x) (rungOf (x % p63) (-1022)) := fval_some (op := .mul) hm
  have f2 : ndraw .mul x 4841369599423283200 = 0 := ndraw_some (op := .mul) hm
  rw [decide_eq_true h] at hb
  clear hm hN h h0
  go_enter Try.func72, Try.ntmps72
  go_wp2_with (go_at_call 45; refine (abs_any _ _ hx).mono ?_; rintro e w' ⟨rfl, rfl⟩)
  go_ret2
  exact ⟨rfl, rfl⟩
theorem normalize_big (x : Nat) (w : World) (hx : x < 18446744073709551616) (hN : isN x = false) (h : p52 ≤ x % p63) :
    Calls Try.prog 72 #[.float .f64 x] w fun e w' => e = .returned (.tuple #[.float .f64 x, .int .i64 0]) ∧ w = w' := by
  have hb := norm_lt hN
  rw [decide_eq_false (by omega)] at hb
  clear hN h
  go_enter Try.func72, Try.ntmps72
  go_wp2_with (go_at_call 45; refine (abs_any _ _ hx).mono ?_; rintro e w' ⟨rfl, rfl⟩)
  go_ret2
  exact ⟨rfl, rfl⟩

theorem ldexp_odd (x : Nat) (k : Int) (w : World) (hx : x < 18446744073709551616) (h : x % p63 = 0 ∨ infR ≤ x % p63) :
    Calls Try.prog 65 #[.float .f64 x, .int .i64 k] w fun e w' => e = .returned (.float .f64 (ldexpB x k)) ∧ w = w' := by
  have hr : ldexpB x k = x := by unfold ldexpB; rw [if_pos h]
  rw [hr]
  have e0 : eqB x 0 = decide (x % p63 = 0) := by
    unfold eqB; rw [show isN 0 = false by decide, show key 0 = 0 by decide]
    by_cases g : x % p63 = 0
    · have : isN x = false := isN_of_le (by rw [g]; decide)
      have k0 : key x = 0 := by unfold key; rw [g]; simp
      rw [this, k0]; simp [g]
    · have k0 : key x ≠ 0 := by unfold key; split <;> omega
      simp [g, k0]
  by_cases g : x % p63 = 0
  · rw [decide_eq_true g] at e0
    clear hr h g
    go_enter Try.func65, Try.ntmps65
    go_wp2
    go_ret
    exact ⟨rfl, rfl⟩
  · rw [decide_eq_false g] at e0
    have h' : infR ≤ x % p63 := by omega
    by_cases g2 : x % p63 = infR
    · have c1 : decide (x % p63 = infR) = true := decide_eq_true g2
      clear hr h g h' g2
      go_enter Try.func65, Try.ntmps65
      go_wp2_with (first | (go_at_call 70; refine (isinf_any _ _ hx).mono ?_; rintro e w' ⟨rfl, rfl⟩) | (go_at_call 71; refine (isnan_any _ _).mono ?_; rintro e w' ⟨rfl, rfl⟩))
      go_ret
      exact ⟨rfl, rfl⟩
    · have c1 : decide (x % p63 = infR) = false := decide_eq_false g2
      have c2 : isN x = true := by unfold isN; rw [decide_eq_true_eq]; omega
      clear hr h g h' g2
      go_enter Try.func65, Try.ntmps65
      go_wp2_with (first | (go_at_call 70; refine (isinf_any _ _ hx).mono ?_; rintro e w' ⟨rfl, rfl⟩) | (go_at_call 71; refine (isnan_any _ _).mono ?_; rintro e w' ⟨rfl, rfl⟩))
      go_ret
      exact ⟨rfl, rfl⟩

end Go.Proofs.Ytbepaoliboooaaa

namespace Go.Proofs.Ytbepaoliboooaaa
open Go.RowKit
attribute [local go_sem] alloc_drewN setCell_drewN call_bits call_frombits ord_lt ord_eq ord_gt ord_ne ord_le ord_ge eqB_self run_fadd run_fsub run_fmul run_fquo

def Norm (x Y : Nat) (e0 : Int) : Prop := ∀ w, Calls Try.prog 72 #[.float .f64 x] w fun e w' => e = .returned (.tuple #[.float .f64 Y, .int .i64 e0]) ∧ w = w'

theorem bits_field {Y : Nat} (hY : Y < 18446744073709551616) : bits .and .i64 (Y / 4503599627370496 : Int) 2047 = ((Y % p63 / p52 : Nat) : Int) := by
  have e : ((Y : Int) / 4503599627370496) = ((Y / 4503599627370496 : Nat) : Int) := by omega
  rw [e]
  have hlt : Y / 4503599627370496 < 18446744073709551616 := by omega
  show IntKind.i64.wrap ((BitVec.ofInt 64 ((Y / 4503599627370496 : Nat) : Int) &&& BitVec.ofInt 64 ((2047 : Nat) : Int)).toNat : Int) = _
  rw [BitVec.toNat_and, ofInt_u64 _ hlt, ofInt_u64 _ (by decide), show (2047 : Nat) = 2 ^ 11 - 1 from rfl, Nat.and_two_pow_sub_one_eq_mod, IntKind.wrap_i64]
  unfold p63 p52
  omega

theorem bits_set {Y T : Nat} (hY : Y < 18446744073709551616) (hT : T ≤ 2046) :
    bits .or .u64 (bits .andNot .u64 (Y : Int) 9218868437227405312) ((T : Int) * 4503599627370496) = ((Ieee.double.word (neg Y) (T * p52 + Y % p63 % p52) : Nat) : Int) := by
  have h1 := u64_andNot_nat Y 9218868437227405312 hY (by decide)
  have e : ((9218868437227405312 : Nat) : Int) = 9218868437227405312 := rfl
  have em : (18446744073709551615 - 9218868437227405312 : Nat) = 2 ^ 63 ||| (2 ^ 52 - 1) := by decide
  have hm : Y % p63 % p52 = Y % 2 ^ 52 := by unfold p63 p52; omega
  have hf : Y % 2 ^ 52 < 2 ^ 52 := Nat.mod_lt _ (by decide)
  have ey : Y &&& 2 ^ 63 = if neg Y then 2 ^ 63 else 0 := by
    have ht : neg Y = Y.testBit 63 := by
      unfold neg p63; rw [Nat.testBit_eq_decide_div_mod_eq]; rfl
    rw [ht]
    apply Nat.eq_of_testBit_eq
    intro i
    rw [Nat.testBit_and, Nat.testBit_two_pow]
    by_cases hi : 63 = i
    · subst hi
      cases hb : Y.testBit 63
      · simp
      · simp only [if_true, Nat.testBit_two_pow]; simp
    · cases hb : Y.testBit 63
      · simp [hi]
      · simp only [if_true, Nat.testBit_two_pow]; simp [hi]
  rw [← e, h1, em, Nat.and_or_distrib_left, ey, Nat.and_two_pow_sub_one_eq_mod, hm, word_eq]
  have hb : T * p52 + Y % 2 ^ 52 < 2 ^ 63 := by unfold p52; omega
  have c1 : T * p52 ||| Y % 2 ^ 52 = T * p52 + Y % 2 ^ 52 := by
    have := Nat.two_pow_add_eq_or_of_lt (i := 52) hf T
    rw [show T * p52 = 2 ^ 52 * T by unfold p52; omega]; exact this.symm
  have c2 : 2 ^ 63 ||| (T * p52 + Y % 2 ^ 52) = 2 ^ 63 + (T * p52 + Y % 2 ^ 52) := by
    have := Nat.two_pow_add_eq_or_of_lt (i := 63) hb 1
    rw [Nat.mul_one] at this; exact this.symm
  have hc : ((T : Int) * 4503599627370496) = ((T * p52 : Nat) : Int) := by unfold p52; omega
  rw [hc]
  cases neg Y
  · simp only [Bool.false_eq_true, if_false, Nat.zero_or]
    rw [u64_or_nat _ _ (by omega) (by unfold p52; omega), Nat.or_comm, c1]
  · simp only [if_true]
    have hl : 2 ^ 63 ||| Y % 2 ^ 52 < 18446744073709551616 := Nat.or_lt_two_pow (n := 64) (by decide) (by omega)
    rw [u64_or_nat _ _ hl (by unfold p52; omega), Nat.or_assoc, Nat.or_comm (Y % 2 ^ 52), c1, c2]
    rfl

theorem ltB_zero {Y : Nat} (hN : isN Y = false) (h0 : Y % p63 ≠ 0) : ltB Y 0 = neg Y := by
  unfold ltB; rw [hN, show isN 0 = false by decide, show key 0 = 0 by decide]
  rw [key_eq]; unfold sgd
  cases neg Y <;> simp <;> omega

theorem mul_one_fin {Z : Nat} (hZ : Z < 18446744073709551616) (h : Z % p63 < infR) : Ieee.double.mul 4607182418800017408 Z = some Z := by
  obtain ⟨K, hK, hc⟩ : ∃ K, K = 1022 ∧ U (4607182418800017408 % p63) = 2 ^ (52 + K) := by
    obtain ⟨K, hK⟩ : ∃ K, K = 4607182418800017408 % p63 / p52 - 1 := ⟨_, rfl⟩
    have h1 : p52 + 4607182418800017408 % p63 % p52 = 2 ^ 52 := by decide
    exact ⟨K, by rw [hK]; decide, U_parts (by decide) hK.symm h1⟩
  rw [mul_fin (by decide) h, hc, Nat.mul_comm, show (-2148 : Int) = -1074 - ((52 + K : Nat) : Int) by omega, rungOf_scale, rungOf_U (Nat.le_of_lt h),
    show (neg 4607182418800017408 ^^ neg Z) = neg Z by rw [show neg 4607182418800017408 = false by decide]; cases neg Z <;> rfl, word_self hZ]

/-- 2^-53 times a word. -/
theorem mul_small {E f : Nat} (s : Bool) (e : Int) (hf : f < p52) (hE : E ≤ 2046) (hE1 : 1 ≤ E) (he : (E : Int) = e + 1076) :
    Ieee.double.mul 4368491638549381120 (Ieee.double.word s (E * p52 + f)) = some (Ieee.double.word s (rungOf (p52 + f) (e - 52))) := by
  obtain ⟨K, hK, hc⟩ : ∃ K, K = 969 ∧ U (4368491638549381120 % p63) = 2 ^ (52 + K) := by
    obtain ⟨K, hK⟩ : ∃ K, K = 4368491638549381120 % p63 / p52 - 1 := ⟨_, rfl⟩
    have h1 : p52 + 4368491638549381120 % p63 % p52 = 2 ^ 52 := by decide
    exact ⟨K, by rw [hK]; decide, U_parts (by decide) hK.symm h1⟩
  have hi : infR = 2047 * p52 := by decide
  have hlt : E * p52 + f < infR := by
    have := Nat.mul_le_mul_right p52 hE; omega
  have d1 : (E * p52 + f) / p52 = E := by
    apply Nat.div_eq_of_lt_le
    · omega
    · rw [Nat.add_mul]; omega
  have d2 : (E * p52 + f) % p52 = f := by
    have := Nat.div_add_mod (E * p52 + f) p52; rw [d1, Nat.mul_comm] at this; omega
  have hU : U (E * p52 + f) = (p52 + f) * 2 ^ (E - 1) := by
    unfold U; rw [d1, d2, if_neg]
    have := Nat.mul_le_mul_right p52 hE1; omega
  rw [mul_fin (by decide) (by rw [word_mod s (Nat.le_of_lt hlt)]; exact hlt), word_mod s (Nat.le_of_lt hlt), word_neg s (Nat.le_of_lt hlt), hc, hU, Nat.mul_comm, Nat.mul_assoc, ← Nat.pow_add,
    show (-2148 : Int) = e - 52 - ((E - 1 + (52 + K) : Nat) : Int) by omega, rungOf_scale,
    show (neg 4368491638549381120 ^^ s) = s by rw [show neg 4368491638549381120 = false by decide]; cases s <;> rfl]

set_option maxHeartbeats 800000 in
theorem ldexp_run (x : Nat) (k : Int) (w : World) (Y : Nat) (e0 : Int) (E f : Nat) (hx : x < 18446744073709551616) (hY : Y < 18446744073709551616)
    (c0 : eqB x 0 = false) (c1 : decide (x % p63 = infR) = false) (c2 : isN x = false) (HC : Norm x Y e0) (he1 : -52 ≤ e0) (he2 : e0 ≤ 0)
    (hk1 : -4611686018427387904 ≤ k) (hk2 : k ≤ 4611686018427387904) (hE : Y % p63 / p52 = E) (hf : Y % p63 % p52 = f) (hE0 : 1 ≤ E) (hE1 : E ≤ 2046)
    (hfp : f < p52) (hN : isN Y = false) (hY0 : Y % p63 ≠ 0) (hs : neg Y = neg x) (hr : ldexpB x k = Ieee.double.word (neg x) (rungOf ((p52 + f) * 2 ^ (E - 1)) (k + e0 - 1074))) :
    Calls Try.prog 65 #[.float .f64 x, .int .i64 k] w fun e w' => e = .returned (.float .f64 (ldexpB x k)) ∧ w = w' := by
  have hb := bits_field hY
  rw [hE] at hb
  obtain ⟨e, he⟩ : ∃ e : Int, k + e0 + (E - 1023) = e := ⟨_, rfl⟩
  have hbd : -9000000000000000000 ≤ e ∧ e ≤ 9000000000000000000 := by omega
  obtain ⟨q1, q2, q3, q4⟩ := ld_core hE0 hfp (k + e0) e (by omega)
  obtain ⟨hb1, hb2⟩ := hbd
  rw [hr]
  have hl := ltB_zero hN hY0
  rw [hs] at hl
  by_cases h1 : -1022 ≤ e
  · by_cases h2 : e ≤ 1023
    · rw [q3 h1 h2]
      obtain ⟨T, hT⟩ : ∃ T : Nat, (T : Int) = e + 1023 := ⟨(e + 1023).toNat, by omega⟩
      rw [show (e + 1023).toNat = T by omega]
      have hz := bits_set (T := T) hY (by omega)
      rw [hT, hf, hs] at hz
      have hi : infR = 2047 * p52 := by decide
      have hlt : T * p52 + f < infR := by
        have := Nat.mul_le_mul_right p52 (show T ≤ 2046 by omega); omega
      have hm := mul_one_fin (Z := Ieee.double.word (neg x) (T * p52 + f)) (word_lt _ (Nat.le_of_lt hlt)) (by rw [word_mod _ (Nat.le_of_lt hlt)]; exact hlt)
      generalize Ieee.double.word (neg x) (T * p52 + f) = Z at *
      have f1 : ∀ w, fval .mul w 4607182418800017408 Z = Z := fval_some (op := .mul) hm
      have f2 : ndraw .mul 4607182418800017408 Z = 0 := ndraw_some (op := .mul) hm
      clear q1 q2 q3 q4 hm hlt hT hr hi hs hl hN hfp hf
      go_enter Try.func65, Try.ntmps65
      go_wp2_with (first | (go_at_call 70; refine (isinf_any _ _ hx).mono ?_; rintro e w' ⟨rfl, rfl⟩) | (go_at_call 71; refine (isnan_any _ _).mono ?_; rintro e w' ⟨rfl, rfl⟩) | (go_at_call 72; refine (HC _).mono ?_; rintro e w' ⟨rfl, rfl⟩))
      go_ret
      exact ⟨rfl, rfl⟩
    · rw [q2 (by omega)]
      have h2' : 1023 < e := by omega
      cases hn : neg x
      · rw [hn] at hl
        clear q1 q2 q3 q4 hr hs hN hfp hf h2
        go_enter Try.func65, Try.ntmps65
        go_wp2_with (first | (go_at_call 70; refine (isinf_any _ _ hx).mono ?_; rintro e w' ⟨rfl, rfl⟩) | (go_at_call 71; refine (isnan_any _ _).mono ?_; rintro e w' ⟨rfl, rfl⟩) | (go_at_call 72; refine (HC _).mono ?_; rintro e w' ⟨rfl, rfl⟩) | (go_at_call 44; refine (inf_pos _).mono ?_; rintro e w' ⟨rfl, rfl⟩))
        go_ret
        exact ⟨ret_float (by decide), rfl⟩
      · rw [hn] at hl
        clear q1 q2 q3 q4 hr hs hN hfp hf h2
        go_enter Try.func65, Try.ntmps65
        go_wp2_with (first | (go_at_call 70; refine (isinf_any _ _ hx).mono ?_; rintro e w' ⟨rfl, rfl⟩) | (go_at_call 71; refine (isnan_any _ _).mono ?_; rintro e w' ⟨rfl, rfl⟩) | (go_at_call 72; refine (HC _).mono ?_; rintro e w' ⟨rfl, rfl⟩) | (go_at_call 44; refine (inf_neg _).mono ?_; rintro e w' ⟨rfl, rfl⟩))
        go_ret
        exact ⟨ret_float (by decide), rfl⟩
  · by_cases h2 : e < -1075
    · rw [q1 h2]
      clear q1 q2 q3 q4 hr hN hfp hf hl h1
      go_enter Try.func65, Try.ntmps65
      go_wp2_with (first | (go_at_call 70; refine (isinf_any _ _ hx).mono ?_; rintro e w' ⟨rfl, rfl⟩) | (go_at_call 71; refine (isnan_any _ _).mono ?_; rintro e w' ⟨rfl, rfl⟩) | (go_at_call 72; refine (HC _).mono ?_; rintro e w' ⟨rfl, rfl⟩) | (go_at_call 73; refine (copysign_any _ _ _ (by decide) hY).mono ?_; rintro e w' ⟨rfl, rfl⟩))
      go_ret
      exact ⟨rfl, rfl⟩
    · rw [q4]
      obtain ⟨T, hT⟩ : ∃ T : Nat, (T : Int) = e + 1076 := ⟨(e + 1076).toNat, by omega⟩
      have hz := bits_set (T := T) hY (by omega)
      rw [show (T : Int) = e + 53 + 1023 by omega, hf, hs] at hz
      have hm := mul_small (neg x) e hfp (show T ≤ 2046 by omega) (by omega) hT
      have hwl : Ieee.double.word (neg x) (rungOf (p52 + f) (e - 52)) < 18446744073709551616 := word_lt _ (rungOf_le_inf _ _)
      generalize Ieee.double.word (neg x) (T * p52 + f) = Z at *
      generalize Ieee.double.word (neg x) (rungOf (p52 + f) (e - 52)) = R at *
      have f1 : ∀ w, fval .mul w 4368491638549381120 Z = R := fval_some (op := .mul) hm
      have f2 : ndraw .mul 4368491638549381120 Z = 0 := ndraw_some (op := .mul) hm
      have h1' : e < -1022 := by omega
      have h2' : -1075 ≤ e := by omega
      clear q1 q2 q3 q4 hm hT hr hs hl hN hfp hf h1 h2
      go_enter Try.func65, Try.ntmps65
      go_wp2_with (first | (go_at_call 70; refine (isinf_any _ _ hx).mono ?_; rintro e w' ⟨rfl, rfl⟩) | (go_at_call 71; refine (isnan_any _ _).mono ?_; rintro e w' ⟨rfl, rfl⟩) | (go_at_call 72; refine (HC _).mono ?_; rintro e w' ⟨rfl, rfl⟩))
      go_ret
      exact ⟨rfl, rfl⟩

/-- The whole: every number, every power that is not out of all measure. -/
theorem ldexp_any (x : Nat) (k : Int) (w : World) (hx : x < 18446744073709551616) (hk1 : -4611686018427387904 ≤ k) (hk2 : k ≤ 4611686018427387904) :
    Calls Try.prog 65 #[.float .f64 x, .int .i64 k] w fun e w' => e = .returned (.float .f64 (ldexpB x k)) ∧ w = w' := by
  by_cases h : x % p63 = 0 ∨ infR ≤ x % p63
  · exact ldexp_odd x k w hx h
  · have h0 : x % p63 ≠ 0 := fun e => h (.inl e)
    have hlt : x % p63 < infR := by omega
    have hN : isN x = false := isN_of_le (Nat.le_of_lt hlt)
    have c0 : eqB x 0 = false := by
      unfold eqB; rw [show isN 0 = false by decide, show key 0 = 0 by decide]
      have k0 : key x ≠ 0 := by unfold key; split <;> omega
      simp [k0]
    have c1 : decide (x % p63 = infR) = false := decide_eq_false (by omega)
    have hr : ldexpB x k = Ieee.double.word (neg x) (rungOf (U (x % p63)) (k - 1074)) := by unfold ldexpB; rw [if_neg h]
    by_cases hs : x % p63 < p52
    · obtain ⟨e1, e2, e3, e4⟩ := mul_norm h0 hs
      obtain ⟨n1, n2, n3, n4, n5⟩ := normal_parts e2 e3
      have wm := word_mod (neg x) (Nat.le_of_lt e3)
      refine ldexp_run x k w (Ieee.double.word (neg x) (rungOf (x % p63) (-1022))) (-52) _ _ hx (word_lt _ (Nat.le_of_lt e3)) c0 c1 hN (fun w => normalize_small x w hx h0 hs) (by omega) (by omega) hk1 hk2 rfl rfl (by rw [wm]; exact n1) (by rw [wm]; exact n2) (by rw [wm]; exact n3) (word_isN _ (Nat.le_of_lt e3)) (by rw [wm]; unfold p52 at e2; omega) (word_neg _ (Nat.le_of_lt e3)) ?_
      rw [hr, wm, ← n5, e4]
      have hU : U (x % p63) = x % p63 := by unfold U; rw [if_pos hs]
      rw [hU]
      have := rungOf_scale (x % p63) (k - 1074) 52
      rw [← this, show k - 1074 - ((52 : Nat) : Int) = k + -52 - 1074 by omega]
    · obtain ⟨n1, n2, n3, n4, n5⟩ := normal_parts (show p52 ≤ x % p63 by omega) hlt
      refine ldexp_run x k w x 0 _ _ hx hx c0 c1 hN (fun w => normalize_big x w hx hN (by omega)) (by omega) (by omega) hk1 hk2 rfl rfl n1 n2 n3 hN h0 rfl ?_
      rw [hr, ← n5, Int.add_zero]

theorem mldexp_any (x : Nat) (k : Int) (w : World) (hx : x < 18446744073709551616) (hk1 : -4611686018427387904 ≤ k) (hk2 : k ≤ 4611686018427387904) :
    Calls Try.prog 53 #[.float .f64 x, .int .i64 k] w fun e w' => e = .returned (.float .f64 (ldexpB x k)) ∧ w = w' := by
  go_enter Try.func53, Try.ntmps53
  go_wp2_with (go_at_call 65; refine (ldexp_any _ _ _ hx hk1 hk2).mono ?_; rintro e w' ⟨rfl, rfl⟩)
  go_ret
  exact ⟨rfl, rfl⟩
end Go.Proofs.Ytbepaoliboooaaa

namespace Go.Proofs.Ytbepaoliboooaaa
open Go.RowKit
attribute [local go_sem] alloc_drewN setCell_drewN call_bits call_frombits ord_lt ord_eq ord_gt ord_ne ord_le ord_ge eqB_self run_fadd run_fsub run_fmul run_fquo

theorem num_any (m k : Int) (w : World) : Calls Try.prog 24 #[.int .i64 m, .int .i64 k] w fun e w' => e = .returned (.float .f64 (ldexpB (floatOfInt .f64 (m % 9007199254740992 - 4503599627370496)) (k % 80 - 80))) ∧ w = w' := by
  have h1 := Int.emod_nonneg m (show (9007199254740992 : Int) ≠ 0 by decide)
  have h2 := Int.emod_lt_of_pos m (show (0 : Int) < 9007199254740992 by decide)
  have h3 := Int.emod_nonneg k (show (80 : Int) ≠ 0 by decide)
  have h4 := Int.emod_lt_of_pos k (show (0 : Int) < 80 by decide)
  go_enter Try.func24, Try.ntmps24
  go_wp2_with (first | (go_at_call 54; refine (within_any _ _ _ (by decide) (by decide)).mono ?_; rintro e w' ⟨rfl, rfl⟩) | (go_at_call 53; refine (mldexp_any _ _ _ (ofInt_lt _) (by omega) (by omega)).mono ?_; rintro e w' ⟨rfl, rfl⟩))
  go_ret
  exact ⟨rfl, rfl⟩

def rareB (n : Int) : Nat := if n = 0 then nanB else if n = 1 then 9218868437227405312 else if n = 2 then 18442240474082181120 else if n = 3 then 0 else if n = 4 then 1 else if n = 5 then 18442240474082181119 else if n = 6 then 9218868437227405311 else if n = 7 then 4607182418800017408 else if n = 8 then 4602678819172646912 else 13835058055282163712
theorem rare_any (n : Int) (w : World) : Calls Try.prog 48 #[.int .i64 n] w fun e w' => e = .returned (.float .f64 (rareB (n % 10))) ∧ Below w.heap.size w w' := by
  have h1 := Int.emod_nonneg n (show (10 : Int) ≠ 0 by decide)
  have h2 := Int.emod_lt_of_pos n (show (0 : Int) < 10 by decide)
  go_enter Try.func48, Try.ntmps48
  go_wp2_with (first | (go_at_call 54; refine (within_any _ _ _ (by decide) (by decide)).mono ?_; rintro e w' ⟨rfl, rfl⟩) | (go_at_call 46; refine (nan_any _).mono ?_; rintro e w' ⟨rfl, rfl⟩) | (go_at_call 44; first | (with_reducible refine (inf_pos _).mono ?_; rintro e w' ⟨rfl, rfl⟩) | (with_reducible refine (inf_neg _).mono ?_; rintro e w' ⟨rfl, rfl⟩)))
  go_ret
  refine ⟨?_, (Below.refl _ _).alloc (Nat.le_refl _) _⟩
  generalize n % 10 = k at *
  have hk : k = 0 ∨ k = 1 ∨ k = 2 ∨ k = 3 ∨ k = 4 ∨ k = 5 ∨ k = 6 ∨ k = 7 ∨ k = 8 ∨ k = 9 := by omega
  rcases hk with rfl | rfl | rfl | rfl | rfl | rfl | rfl | rfl | rfl | rfl <;> rfl
theorem rareB_lt (k : Int) : rareB k < 18446744073709551616 := by unfold rareB nanB; split <;> (try split) <;> (try split) <;> (try split) <;> (try split) <;> (try split) <;> (try split) <;> (try split) <;> (try split) <;> omega


end Go.Proofs.Ytbepaoliboooaaa
