/-
  Scaling by a power of two, sums and products with what is left, and the tests of fp, the program's and the document's: what each call gives, of the bits that came in.
-/
import Derived.Test.YtmmpgglbeaofkaaFpa
import Derived.Test.YtmmpgglbeaofkaaMe
namespace Go.Proofs.Ytmmpgglbeaofkaa
open Go.RowKit
attribute [local go_sem] alloc_drewN setCell_drewN call_bits call_frombits ord_lt ord_eq ord_gt ord_ne ord_le ord_ge eqB_self run_fadd run_fsub run_fmul run_fquo

theorem max_lt (x : Nat) : ltB 9218868437227405311 (x % 9223372036854775808) = decide (x % p63 = infR) := by
  unfold ltB
  have h1 : isN (x % 9223372036854775808) = isN x := by unfold isN p63; rw [Nat.mod_mod]
  have h2 : key (x % 9223372036854775808) = ((x % p63 : Nat) : Int) := by
    unfold key p63; rw [Nat.mod_mod, if_neg (by omega)]
  have h3 : key 9218868437227405311 = 9218868437227405311 := by decide
  have h4 : isN 9218868437227405311 = false := by decide
  rw [h1, h2, h3, h4]
  unfold isN infR
  rw [Bool.eq_iff_iff]; simp; omega

theorem isinf_any (x : Nat) (w : World) (hx : x < 18446744073709551616) : Calls Try.prog 93 #[.float .f64 x, .int .i64 0] w fun e w' => e = .returned (.bool (decide (x % p63 = infR))) ∧ w = w' := by
  have hm := max_lt x
  have H := Lib.hid hm
  clear hm
  go_enter Try.func93, Try.ntmps93
  go_wp2_with (go_at_call 44; refine (abs_any _ _ hx).mono ?_; rintro e w' ⟨rfl, rfl⟩)
  go_ret
  exact ⟨ret_bool H.out, rfl⟩

theorem norm_lt {x : Nat} (h : isN x = false) : ltB (x % 9223372036854775808) 4503599627370496 = decide (x % p63 < p52) := by
  unfold ltB
  have h1 : isN (x % 9223372036854775808) = isN x := by unfold isN p63; rw [Nat.mod_mod]
  have h2 : key (x % 9223372036854775808) = ((x % p63 : Nat) : Int) := by
    unfold key p63; rw [Nat.mod_mod, if_neg (by omega)]
  have h3 : key 4503599627370496 = 4503599627370496 := by decide
  have h4 : isN 4503599627370496 = false := by decide
  rw [h1, h2, h3, h4, h]
  rw [Bool.eq_iff_iff]; unfold p52; simp; omega



end Go.Proofs.Ytmmpgglbeaofkaa
