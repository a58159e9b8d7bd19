/-
  Scaling by a power of two, sums and products with what is left, and the tests of fp, the program's and the document's: what each call gives, of the bits that came in.
-/
import Derived.Test.YtbepaoliboooaaaFpa
import Derived.Test.YtbepaoliboooaaaMe
namespace Go.Proofs.Ytbepaoliboooaaa
open Go.RowKit
attribute [local go_sem] alloc_drewN setCell_drewN call_bits call_frombits ord_lt ord_eq ord_gt ord_ne ord_le ord_ge eqB_self run_fadd run_fsub run_fmul run_fquo

theorem max_lt (x : Nat) : ltB 9218868437227405311 (x % 9223372036854775808) = decide (x % p63 = infR) := by
  unfold ltB
  have h1 : isN (x % 9223372036854775808) = isN x := by unfold isN p63; rw [Nat.mod_mod]
  have h2 : key (x % 9223372036854775808) = ((x % p63 : Nat) : Int) := by
    unfold key p63; rw [Nat.mod_mod, if_neg (by omega)]
  have h3 : key 9218868437227405311 = 9218868437227405311 := by decide
  have h4 : isN 9218868437227405311 = false := by decide
  rw [h1, h2, h3, h4]
  unfold isN infR
  rw [Bool.eq_iff_iff]; simp; omega

theorem isinf_any (x : Nat) (w : World) (hx : x < 18446744073709551616) : Calls Try.prog 70 #[.float .f64 x, .int .i64 0] w fun e w' => e = .returned (.bool (decide (x % p63 = infR))) ∧ w = w' := by
  have hm := max_lt x
  have H := Lib.hid hm
  clear hm
  go_enter Try.func70, Try.ntmps70
  go_wp2_with (go_at_call 45; refine (abs_any _ _ hx).mono ?_; rintro e w' ⟨rfl, rfl⟩)
  go_ret
  exact ⟨ret_bool H.out, rfl⟩

theorem norm_lt {x : Nat} (h : isN x = false) : ltB (x % 9223372036854775808) 4503599627370496 = decide (x % p63 < p52) := by
  unfold ltB
  have h1 : isN (x % 9223372036854775808) = isN x := by unfold isN p63; rw [Nat.mod_mod]
  have h2 : key (x % 9223372036854775808) = ((x % p63 : Nat) : Int) := by
    unfold key p63; rw [Nat.mod_mod, if_neg (by omega)]
  have h3 : key 4503599627370496 = 4503599627370496 := by decide
  have h4 : isN 4503599627370496 = false := by decide
  rw [h1, h2, h3, h4, h]
  rw [Bool.eq_iff_iff]; unfold p52; simp; omega

theorem normalize_small (x : Nat) (w : World) (hx : x < 18446744073709551616) (h0 : x % p63 ≠ 0) (h : x % p63 < p52) :
    Calls Try.prog 72 #[.float .f64 x] w fun e w' => e = .returned (.tuple #[.float .f64 (Ieee.double.word (neg x) (rungOf (x % p63) (-1022))), .int .i64 (-52)]) ∧ w = w' := by
  have hN : isN x = false := isN_of_le (by unfold p52 at h; unfold infR; omega)
  have hb := norm_lt hN
  have hm := (mul_norm h0 h).1
  have f1 : ∀ w, fval .mul w x 4841369599423283200 = Ieee.double.word (neg x) (rungOf (x % p63) (-1022)) := fval_some (op := .mul) hm
  have f2 : ndraw .mul x 4841369599423283200 = 0 := ndraw_some (op := .mul) hm
  rw [decide_eq_true h] at hb
  clear hm hN h h0
  go_enter Try.func72, Try.ntmps72
  go_wp2_with (go_at_call 45; refine (abs_any _ _ hx).mono ?_; rintro e w' ⟨rfl, rfl⟩)
  go_ret2
  exact ⟨rfl, rfl⟩
theorem normalize_big (x : Nat) (w : World) (hx : x < 18446744073709551616) (hN : isN x = false) (h : p52 ≤ x % p63) :
    Calls Try.prog 72 #[.float .f64 x] w fun e w' => e = .returned (.tuple #[.float .f64 x, .int .i64 0]) ∧ w = w' := by
  have hb := norm_lt hN
  rw [decide_eq_false (by omega)] at hb
  clear hN h
  go_enter Try.func72, Try.ntmps72
  go_wp2_with (go_at_call 45; refine (abs_any _ _ hx).mono ?_; rintro e w' ⟨rfl, rfl⟩)
  go_ret2
  exact ⟨rfl, rfl⟩

theorem ldexp_odd (x : Nat) (k : Int) (w : World) (hx : x < 18446744073709551616) (h : x % p63 = 0 ∨ infR ≤ x % p63) :
    Calls Try.prog 65 #[.float .f64 x, .int .i64 k] w fun e w' => e = .returned (.float .f64 (ldexpB x k)) ∧ w = w' := by
  have hr : ldexpB x k = x := by unfold ldexpB; rw [if_pos h]
  rw [hr]
  have e0 : eqB x 0 = decide (x % p63 = 0) := by
    unfold eqB; rw [show isN 0 = false by decide, show key 0 = 0 by decide]
    by_cases g : x % p63 = 0
    · have : isN x = false := isN_of_le (by rw [g]; decide)
      have k0 : key x = 0 := by unfold key; rw [g]; simp
      rw [this, k0]; simp [g]
    · have k0 : key x ≠ 0 := by unfold key; split <;> omega
      simp [g, k0]
  by_cases g : x % p63 = 0
  · rw [decide_eq_true g] at e0
    clear hr h g
    go_enter Try.func65, Try.ntmps65
    go_wp2
    go_ret
    exact ⟨rfl, rfl⟩
  · rw [decide_eq_false g] at e0
    have h' : infR ≤ x % p63 := by omega
    by_cases g2 : x % p63 = infR
    · have c1 : decide (x % p63 = infR) = true := decide_eq_true g2
      clear hr h g h' g2
      go_enter Try.func65, Try.ntmps65
      go_wp2_with (first | (go_at_call 70; refine (isinf_any _ _ hx).mono ?_; rintro e w' ⟨rfl, rfl⟩) | (go_at_call 71; refine (isnan_any _ _).mono ?_; rintro e w' ⟨rfl, rfl⟩))
      go_ret
      exact ⟨rfl, rfl⟩
    · have c1 : decide (x % p63 = infR) = false := decide_eq_false g2
      have c2 : isN x = true := by unfold isN; rw [decide_eq_true_eq]; omega
      clear hr h g h' g2
      go_enter Try.func65, Try.ntmps65
      go_wp2_with (first | (go_at_call 70; refine (isinf_any _ _ hx).mono ?_; rintro e w' ⟨rfl, rfl⟩) | (go_at_call 71; refine (isnan_any _ _).mono ?_; rintro e w' ⟨rfl, rfl⟩))
      go_ret
      exact ⟨rfl, rfl⟩

end Go.Proofs.Ytbepaoliboooaaa
