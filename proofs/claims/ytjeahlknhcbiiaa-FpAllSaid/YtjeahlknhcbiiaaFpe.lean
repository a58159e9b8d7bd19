/-
  The laws of single numbers, walked: each answers true, and makes new memory alone.
-/
import Derived.Test.YtjeahlknhcbiiaaFpd
namespace Go.Proofs.Ytjeahlknhcbiiaa
open Go.RowKit
attribute [local go_sem] alloc_drewN setCell_drewN call_bits call_frombits ord_lt ord_eq ord_gt ord_ne ord_le ord_ge eqB_self run_fadd run_fsub run_fmul run_fquo call_fma run_fneg

theorem twoSum_53 (w : World) : Calls Try.prog 27 #[.float .f64 4845873199050653696, .float .f64 4607182418800017408] w fun e w' => ∃ n, e = .returned (.tuple #[.float .f64 4845873199050653696, .float .f64 4607182418800017408]) ∧ w' = w.drewN n :=
  (twoSum_any _ _ _).mono fun _ _ h => h.lit (by decide +kernel) (by decide +kernel) (by decide) (by decide)
theorem twoMul_27 (w : World) : Calls Try.prog 29 #[.float .f64 4728779608772575232, .float .f64 4728779608772575232] w fun e w' => ∃ n, e = .returned (.tuple #[.float .f64 4850376798745133056, .float .f64 4607182418800017408]) ∧ w' = w.drewN n :=
  (twoMul_any _ _ _).mono fun _ _ h => h.lit (by decide +kernel) (by decide +kernel) (by decide) (by decide)

set_option maxRecDepth 100000 in
set_option maxHeartbeats 2000000 in
theorem fpKnown_walk (a : Int) (w : World) (_h : -9223372036854775808 ≤ a ∧ a ≤ 9223372036854775807) :
    Calls Try.prog 8 #[.int .i64 a] w fun e w' => e = .returned (.bool true) ∧ Below w.heap.size w w' := by
  have h1 := Int.emod_nonneg a (show (10 : Int) ≠ 0 by decide)
  have h2 := Int.emod_lt_of_pos a (show (0 : Int) < 10 by decide)
  have hc1 : upB 0 = 1 := by decide +kernel
  have hc2 : isN 1 = false := by decide +kernel
  have hc3 : upB 4607182418800017408 = 4607182418800017409 := by decide +kernel
  have hh4 : floatBits .sub .f64 4607182418800017409 4607182418800017408 = some 4372995238176751616 := by decide +kernel
  have hv4 : ∀ w, fval .sub w 4607182418800017409 4607182418800017408 = 4372995238176751616 := fval_some hh4
  have hn4 : ndraw .sub 4607182418800017409 4607182418800017408 = 0 := ndraw_some hh4
  clear hh4
  have hc5 : isN 4372995238176751616 = false := by decide +kernel
  have hc6 : downB 4607182418800017408 = 4607182418800017407 := by decide +kernel
  have hh7 : floatBits .sub .f64 4607182418800017408 4607182418800017407 = some 4368491638549381120 := by decide +kernel
  have hv7 : ∀ w, fval .sub w 4607182418800017408 4607182418800017407 = 4368491638549381120 := fval_some hh7
  have hn7 : ndraw .sub 4607182418800017408 4607182418800017407 = 0 := ndraw_some hh7
  clear hh7
  have hc8 : isN 4368491638549381120 = false := by decide +kernel
  have hc9 : upB 9218868437227405311 = 9218868437227405312 := by decide +kernel
  have hc10 : isN 9218868437227405312 = false := by decide +kernel
  have hc11 : downB 9218868437227405312 = 9218868437227405311 := by decide +kernel
  have hc12 : isN 9218868437227405311 = false := by decide +kernel
  have hc13 : isN 4845873199050653696 = false := by decide +kernel
  have hc14 : isN 4607182418800017408 = false := by decide +kernel
  have hc15 : isN 4850376798745133056 = false := by decide +kernel
  have hc16 : ldexpB 4613937818241073152 (-1) = 4609434218613702656 := by decide +kernel
  have hc17 : isN 4609434218613702656 = false := by decide +kernel
  have hc18 : ldexpB 4607182418800017408 (-1074) = 1 := by decide +kernel
  have hc19 : ldexpB 4607182418800017408 2000 = 9218868437227405312 := by decide +kernel
  have hc20 : decide (nanB % p63 < infR) = false := by decide +kernel
  have hc21 : decide (18442240474082181120 % p63 < infR) = false := by decide +kernel
  have hc22 : decide (18442240474082181119 % p63 < infR) = true := by decide +kernel
  have hc23 : upB 9218868437227405312 = 9218868437227405312 := by decide +kernel
  have hc24 : downB 18442240474082181120 = 18442240474082181120 := by decide +kernel
  have hc25 : isN 18442240474082181120 = false := by decide +kernel
  go_enter Try.func8, Try.ntmps8
  go_wp2_with (first | (go_at_call 14; refine (known_any _).mono ?_; rintro e w' ⟨n, rfl, rfl⟩) | (go_at_call 27; refine (twoSum_53 _).mono ?_; rintro e w' ⟨n, rfl, rfl⟩) | (go_at_call 29; refine (twoMul_27 _).mono ?_; rintro e w' ⟨n, rfl, rfl⟩) | (go_at_call 18; refine (up_any _ _ (by decide)).mono ?_; rintro e w' ⟨rfl, rfl⟩) | (go_at_call 20; refine (down_any _ _ (by decide)).mono ?_; rintro e w' ⟨rfl, rfl⟩) | (go_at_call 22; refine (finite_any _ _).mono ?_; rintro e w' ⟨n, rfl, rfl⟩) | (go_at_call 24; refine (scale_any _ _ _ (by decide) (by decide) (by decide)).mono ?_; rintro e w' ⟨rfl, rfl⟩) | (go_at_call 33; refine (nan_any _).mono ?_; rintro e w' ⟨rfl, rfl⟩) | (go_at_call 32; first | (refine (inf_pos _).mono ?_; rintro e w' ⟨rfl, rfl⟩) | (refine (inf_neg _).mono ?_; rintro e w' ⟨rfl, rfl⟩)))
  refine (within_any _ _ _ (by decide) (by decide)).mono ?_
  rintro e w' ⟨rfl, rfl⟩
  generalize a % 10 = k at *
  have hk : k = 0 ∨ k = 1 ∨ k = 2 ∨ k = 3 ∨ k = 4 ∨ k = 5 ∨ k = 6 ∨ k = 7 ∨ k = 8 ∨ k = 9 := by omega
  rcases hk with rfl | rfl | rfl | rfl | rfl | rfl | rfl | rfl | rfl | rfl
  all_goals
    go_wp2
    go_ret
    exact ⟨rfl, below_drew ((Below.refl _ _).alloc (Nat.le_refl _) _) _⟩

end Go.Proofs.Ytjeahlknhcbiiaa
