/-
  The document's word on whether a tape may be, walked.
-/
import Derived.Test.YticbgaflhiokgaaTpb
import Derived.Test.YticbgaflhiokgaaReg
namespace Go.Proofs.Yticbgaflhiokgaa
open Go.RowKit
open Ieee (double)
attribute [local go_sem] alloc_drewN setCell_drewN call_bits call_frombits ord_lt ord_eq ord_gt ord_ne ord_le ord_ge eqB_self run_fadd run_fsub run_fmul run_fquo takeOp pureOp readsUpon doOp

theorem rfinite_tells (a : Nat) (w : World) : Calls Try.prog 35 #[.float .f64 a] w (Tells (.bool (finB a)) w) := by
  have hz := fun w => eqz_fval w a
  have H := Lib.hid hz
  clear hz
  go_enter Try.func35, Try.ntmps35
  go_wp2
  go_ret
  exact ⟨ret_bool (H.out _), below_drew (Below.refl _ _) _⟩
set_option maxHeartbeats 2000000 in
set_option maxRecDepth 100000 in
theorem rright_tells (o : OpD) (i n : Int) (w : World) : Calls Try.prog 41 #[opV o, .int .i64 i, .int .i64 n] w (Tells (.bool (standsB o i n)) w) := by
  obtain ⟨k, a, b, c⟩ := o
  have HB := Box4.new ⟨k, a, b, c⟩ w 32
  have hw : Below w.heap.size w (w.alloc (.cells #[.int .i64 k, .int .i64 a, .int .i64 b, .float .f64 c] 32)) := (Below.refl _ _).alloc (Nat.le_refl _) _
  unfold opV standsB belowB
  simp only []
  go_enter Try.func41, Try.ntmps41
  by_cases k0 : k = 0
  · subst k0
    go_wp2_with fail
    refine (rfinite_tells c _).mono ?_
    rintro e w1 ⟨rfl, hb1⟩
    obtain ⟨c0, c1, c2, c3, c4⟩ := HB.below hb1
    have hw1 := hw.trans (hb1.mono hw.size)
    clear HB hb1 hw
    simp only [] at c0 c1 c2 c3
    generalize hB : w.heap.size = B at *
    cases hf : finB c
    all_goals go_wp2_with fail
    all_goals (go_ret; refine ⟨ret_bool ?_, by rw [hB]; exact hw1⟩; simp_all)
  · obtain ⟨c0, c1, c2, c3, c4⟩ := id HB
    simp only [] at c0 c1 c2 c3
    by_cases k1 : k = 1
    · subst k1
      go_wp2_with fail
      all_goals (go_ret; refine ⟨ret_bool ?_, (Below.refl _ _).alloc (Nat.le_refl _) _⟩; simp_all <;> (intros; first | omega | simp_all))
    · by_cases k2 : 2 ≤ k ∧ k ≤ 5
      · have hk : k = 2 ∨ k = 3 ∨ k = 4 ∨ k = 5 := by omega
        rcases hk with rfl | rfl | rfl | rfl
        all_goals go_wp2_with fail
        all_goals (go_ret; refine ⟨ret_bool ?_, (Below.refl _ _).alloc (Nat.le_refl _) _⟩; simp_all <;> (intros; first | omega | simp_all))
      · go_wp2_with fail
        all_goals first | omega | (go_ret; refine ⟨ret_bool ?_, (Below.refl _ _).alloc (Nat.le_refl _) _⟩; simp_all <;> (intros; first | omega | simp_all))
end Go.Proofs.Yticbgaflhiokgaa
