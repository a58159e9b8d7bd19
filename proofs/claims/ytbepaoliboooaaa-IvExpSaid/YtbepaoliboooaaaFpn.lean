/-
  Numbers made of whole numbers, rare ones, and whether two are the same: what each call gives.
-/
import Derived.Test.YtbepaoliboooaaaFpc
import Derived.Test.YtbepaoliboooaaaMf
import Derived.Test.YtbepaoliboooaaaFpo
namespace Go.Proofs.Ytbepaoliboooaaa
open Go.RowKit
attribute [local go_sem] alloc_drewN setCell_drewN call_bits call_frombits ord_lt ord_eq ord_gt ord_ne ord_le ord_ge eqB_self run_fadd run_fsub run_fmul run_fquo

theorem num_any (m k : Int) (w : World) : Calls Try.prog 24 #[.int .i64 m, .int .i64 k] w fun e w' => e = .returned (.float .f64 (ldexpB (floatOfInt .f64 (m % 9007199254740992 - 4503599627370496)) (k % 80 - 80))) ∧ w = w' := by
  have h1 := Int.emod_nonneg m (show (9007199254740992 : Int) ≠ 0 by decide)
  have h2 := Int.emod_lt_of_pos m (show (0 : Int) < 9007199254740992 by decide)
  have h3 := Int.emod_nonneg k (show (80 : Int) ≠ 0 by decide)
  have h4 := Int.emod_lt_of_pos k (show (0 : Int) < 80 by decide)
  go_enter Try.func24, Try.ntmps24
  go_wp2_with (first | (go_at_call 54; refine (within_any _ _ _ (by decide) (by decide)).mono ?_; rintro e w' ⟨rfl, rfl⟩) | (go_at_call 53; refine (mldexp_any _ _ _ (ofInt_lt _) (by omega) (by omega)).mono ?_; rintro e w' ⟨rfl, rfl⟩))
  go_ret
  exact ⟨rfl, rfl⟩

def rareB (n : Int) : Nat := if n = 0 then nanB else if n = 1 then 9218868437227405312 else if n = 2 then 18442240474082181120 else if n = 3 then 0 else if n = 4 then 1 else if n = 5 then 18442240474082181119 else if n = 6 then 9218868437227405311 else if n = 7 then 4607182418800017408 else if n = 8 then 4602678819172646912 else 13835058055282163712
theorem rare_any (n : Int) (w : World) : Calls Try.prog 48 #[.int .i64 n] w fun e w' => e = .returned (.float .f64 (rareB (n % 10))) ∧ Below w.heap.size w w' := by
  have h1 := Int.emod_nonneg n (show (10 : Int) ≠ 0 by decide)
  have h2 := Int.emod_lt_of_pos n (show (0 : Int) < 10 by decide)
  go_enter Try.func48, Try.ntmps48
  go_wp2_with (first | (go_at_call 54; refine (within_any _ _ _ (by decide) (by decide)).mono ?_; rintro e w' ⟨rfl, rfl⟩) | (go_at_call 46; refine (nan_any _).mono ?_; rintro e w' ⟨rfl, rfl⟩) | (go_at_call 44; first | (with_reducible refine (inf_pos _).mono ?_; rintro e w' ⟨rfl, rfl⟩) | (with_reducible refine (inf_neg _).mono ?_; rintro e w' ⟨rfl, rfl⟩)))
  go_ret
  refine ⟨?_, (Below.refl _ _).alloc (Nat.le_refl _) _⟩
  generalize n % 10 = k at *
  have hk : k = 0 ∨ k = 1 ∨ k = 2 ∨ k = 3 ∨ k = 4 ∨ k = 5 ∨ k = 6 ∨ k = 7 ∨ k = 8 ∨ k = 9 := by omega
  rcases hk with rfl | rfl | rfl | rfl | rfl | rfl | rfl | rfl | rfl | rfl <;> rfl
theorem rareB_lt (k : Int) : rareB k < 18446744073709551616 := by unfold rareB nanB; split <;> (try split) <;> (try split) <;> (try split) <;> (try split) <;> (try split) <;> (try split) <;> (try split) <;> (try split) <;> omega


end Go.Proofs.Ytbepaoliboooaaa
