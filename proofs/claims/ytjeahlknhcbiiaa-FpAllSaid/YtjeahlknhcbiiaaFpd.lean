/-
  Sums and products with what is left, the tests of fp, numbers made of whole numbers, and the examples that every statement begins with: what each call gives.
-/
import Derived.Test.YtjeahlknhcbiiaaFpn
namespace Go.Proofs.Ytjeahlknhcbiiaa
open Go.RowKit
attribute [local go_sem] alloc_drewN setCell_drewN call_bits call_frombits ord_lt ord_eq ord_gt ord_ne ord_le ord_ge eqB_self run_fadd run_fsub run_fmul run_fquo

theorem call_fma (x y z : Nat) (w : World) : (callFunc 39 #[.float .f64 x, .float .f64 y, .float .f64 z]).run Try.prog w = .ok (.value (.float .f64 (fmav w x y z))) (w.drewN (fman x y z)) := by
  rw [run_callFunc_extern (e := Extern.MathFMA.fma) Try.func39 (by kernel_rfl) (by kernel_rfl) (by kernel_rfl) (by kernel_rfl), run_fma]
  rfl
theorem run_fneg (P : Program) (w : World) (x : Nat) : (Op.unary .neg (.float .f64 x)).run P w = .ok (.float .f64 (flip x)) w := rfl
attribute [local go_sem] call_fma run_fneg

/-- Two floats, known but for what is no number. -/
def Two (s t : Nat) (w : World) (e : Ending) (w' : World) : Prop :=
  ∃ x y n, e = .returned (.tuple #[.float .f64 x, .float .f64 y]) ∧ w' = w.drewN n ∧ canon x = s ∧ canon y = t ∧ x < 18446744073709551616 ∧ y < 18446744073709551616

theorem sumAndRest_any (a b : Nat) (w : World) : Calls Try.prog 38 #[.float .f64 a, .float .f64 b] w (Two (cop .add a b) (sumRest a b) w) := by
  go_enter Try.func38, Try.ntmps38
  go_wp2
  go_ret2
  refine ⟨_, _, _, rfl, rfl, ?_, ?_, fval_lt _ _ _ _, fval_lt _ _ _ _⟩
  · exact canon_fval _ _ _ _
  · have hS : ∀ w, canon (fval .add w a b) = cop .add a b := fun w => canon_fval _ _ _ _
    have hV : ∀ w w', canon (fval .sub w (fval .add w' a b) a) = cop .sub (cop .add a b) a := fun w w' => canon_fval' (cc (hS _)) rfl
    exact canon_fval' (cc (canon_fval' rfl (cc (canon_fval' (cc (hS _)) (cc (hV _ _)))))) (cc (canon_fval' rfl (cc (hV _ _))))
theorem twoSum_any (a b : Nat) (w : World) : Calls Try.prog 27 #[.float .f64 a, .float .f64 b] w (Two (cop .add a b) (sumRest a b) w) := by
  go_enter Try.func27, Try.ntmps27
  go_wp2_with (go_at_call 38; refine (sumAndRest_any _ _ _).mono ?_; rintro e w' ⟨x, y, n, rfl, rfl, h⟩)
  go_ret2
  exact ⟨_, _, _, rfl, rfl, h⟩
theorem rtwoSum_any (a b : Nat) (w : World) : Calls Try.prog 28 #[.float .f64 a, .float .f64 b] w (Two (cop .add a b) (sumRest a b) w) := by
  go_enter Try.func28, Try.ntmps28
  go_wp2
  go_ret2
  refine ⟨_, _, _, rfl, rfl, ?_, ?_, fval_lt _ _ _ _, fval_lt _ _ _ _⟩
  · exact canon_fval _ _ _ _
  · have hS : ∀ w, canon (fval .add w a b) = cop .add a b := fun w => canon_fval _ _ _ _
    have hV : ∀ w w', canon (fval .sub w (fval .add w' a b) a) = cop .sub (cop .add a b) a := fun w w' => canon_fval' (cc (hS _)) rfl
    exact canon_fval' (cc (canon_fval' rfl (cc (canon_fval' (cc (hS _)) (cc (hV _ _)))))) (cc (canon_fval' rfl (cc (hV _ _))))

theorem eq_zero_fval (w : World) (a : Nat) : eqB (fval .sub w a a) 0 = decide (a % p63 < infR) := by
  rw [← sub_self_zero, ← eqB_canon, canon_fval, show canon 0 = 0 from rfl]
theorem finite_gen_any (a : Nat) (w : World) : Calls Try.prog 37 #[.float .f64 a] w fun e w' => ∃ n, e = .returned (.bool (decide (a % p63 < infR))) ∧ w' = w.drewN n := by
  have hz := fun w => eq_zero_fval w a
  have H := Lib.hid hz
  clear hz
  go_enter Try.func37, Try.ntmps37
  go_wp2
  go_ret
  exact ⟨_, ret_bool (H.out _), rfl⟩
theorem finite_any (a : Nat) (w : World) : Calls Try.prog 22 #[.float .f64 a] w fun e w' => ∃ n, e = .returned (.bool (decide (a % p63 < infR))) ∧ w' = w.drewN n := by
  go_enter Try.func22, Try.ntmps22
  go_wp2_with (go_at_call 37; refine (finite_gen_any _ _).mono ?_; rintro e w' ⟨n, rfl, rfl⟩)
  go_ret
  exact ⟨_, rfl, rfl⟩
theorem rfinite_any (a : Nat) (w : World) : Calls Try.prog 23 #[.float .f64 a] w fun e w' => ∃ n, e = .returned (.bool (decide (a % p63 < infR))) ∧ w' = w.drewN n := by
  have hz := fun w => eq_zero_fval w a
  have H := Lib.hid hz
  clear hz
  go_enter Try.func23, Try.ntmps23
  go_wp2
  go_ret
  exact ⟨_, ret_bool (H.out _), rfl⟩

theorem twoMul_any (a b : Nat) (w : World) : Calls Try.prog 29 #[.float .f64 a, .float .f64 b] w (Two (cop .mul a b) (mulRest a b) w) := by
  go_enter Try.func29, Try.ntmps29
  go_wp2
  go_ret2
  refine ⟨_, _, _, rfl, rfl, ?_, ?_, fval_lt _ _ _ _, fmav_lt _ _ _ _⟩
  · exact canon_fval _ _ _ _
  · rw [canon_fmav]
    exact cfma_flip _ _ (fval_lt _ _ _ _) (cop_lt _ _ _) (cc (canon_fval _ _ _ _))
theorem rtwoMul_any (a b : Nat) (w : World) : Calls Try.prog 30 #[.float .f64 a, .float .f64 b] w (Two (cop .mul a b) (mulRest0 a b) w) := by
  go_enter Try.func30, Try.ntmps30
  go_wp2
  go_ret2
  refine ⟨_, _, _, rfl, rfl, ?_, ?_, fval_lt _ _ _ _, fmav_lt _ _ _ _⟩
  · exact canon_fval _ _ _ _
  · rw [canon_fmav, ← cfma_canon, canon_fval' rfl (cc (canon_fval _ _ _ _))]; rfl

theorem Two.lit {s t x y : Nat} {w w' : World} {e : Ending} (h : Two s t w e w') (hs : s = x) (ht : t = y) (hx : isN x = false) (hy : isN y = false) : ∃ n, e = .returned (.tuple #[.float .f64 x, .float .f64 y]) ∧ w' = w.drewN n := by
  obtain ⟨a, b, n, h1, h2, h3, h4, _, _⟩ := h
  have e1 := canon_eq_num (h3.trans hs) hx
  have e2 := canon_eq_num (h4.trans ht) hy
  subst e1; subst e2
  exact ⟨n, h1, h2⟩
theorem twoSum_known (w : World) : Calls Try.prog 27 #[.float .f64 4607182418800017408, .float .f64 4611686018427387904] w fun e w' => ∃ n, e = .returned (.tuple #[.float .f64 4613937818241073152, .float .f64 0]) ∧ w' = w.drewN n :=
  (twoSum_any _ _ _).mono fun _ _ h => h.lit (by decide +kernel) (by decide +kernel) (by decide) (by decide)
theorem twoMul_known (w : World) : Calls Try.prog 29 #[.float .f64 4613937818241073152, .float .f64 4617315517961601024] w fun e w' => ∃ n, e = .returned (.tuple #[.float .f64 4624633867356078080, .float .f64 0]) ∧ w' = w.drewN n :=
  (twoMul_any _ _ _).mono fun _ _ h => h.lit (by decide +kernel) (by decide +kernel) (by decide) (by decide)

theorem known_any (w : World) : Calls Try.prog 14 #[] w fun e w' => ∃ n, e = .returned (.bool true) ∧ w' = w.drewN n := by
  have u1 : upB 4607182418800017408 = 4607182418800017409 := by decide
  have d1 : downB 4607182418800017408 = 4607182418800017407 := by decide
  have hs : floatBits .sub .f64 4607182418800017409 4607182418800017408 = some 4372995238176751616 := by decide +kernel
  have f1 : ∀ w, fval .sub w 4607182418800017409 4607182418800017408 = 4372995238176751616 := fval_some hs
  have f2 : ndraw .sub 4607182418800017409 4607182418800017408 = 0 := ndraw_some hs
  have l1 : ltB 4607182418800017408 4607182418800017409 = true := by decide
  have l2 : ltB 4372995238176751616 4382569440205035030 = true := by decide
  have l3 : ltB 4607182418800017407 4607182418800017408 = true := by decide
  have q1 : isN 4613937818241073152 = false := by decide
  have q2 : isN 0 = false := by decide
  have q3 : isN 4624633867356078080 = false := by decide
  have q4 : isN 4620693217682128896 = false := by decide
  have s1 : ldexpB 4607182418800017408 3 = 4620693217682128896 := by decide +kernel
  have c1 : decide (4607182418800017408 % p63 < infR) = true := by decide
  clear hs
  go_enter Try.func14, Try.ntmps14
  go_wp2_with (first | (go_at_call 27; refine (twoSum_known _).mono ?_; rintro e w' ⟨n, rfl, rfl⟩) | (go_at_call 29; refine (twoMul_known _).mono ?_; rintro e w' ⟨n, rfl, rfl⟩) | (go_at_call 18; refine (up_any _ _ (by decide)).mono ?_; rintro e w' ⟨rfl, rfl⟩) | (go_at_call 20; refine (down_any _ _ (by decide)).mono ?_; rintro e w' ⟨rfl, rfl⟩) | (go_at_call 22; refine (finite_any _ _).mono ?_; rintro e w' ⟨n, rfl, rfl⟩) | (go_at_call 24; refine (scale_any _ _ _ (by decide) (by decide) (by decide)).mono ?_; rintro e w' ⟨rfl, rfl⟩))
  go_ret
  exact ⟨_, rfl, rfl⟩

end Go.Proofs.Ytjeahlknhcbiiaa
