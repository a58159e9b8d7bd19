/-
  A rare number, walked: some number.
-/
import Derived.Test.YticbgaflhiokgaaHv
namespace Go.Proofs.Yticbgaflhiokgaa
open Go.RowKit
open Ieee (double)
attribute [local go_sem] alloc_drewN setCell_drewN call_bits call_frombits ord_lt ord_eq ord_gt ord_ne ord_le ord_ge eqB_self run_fadd run_fsub run_fmul run_fquo haStoreFlt

set_option maxRecDepth 100000 in
set_option maxHeartbeats 4000000 in
theorem rare_tells (a : Int) (w : World) : Calls Try.prog 18 #[.int .i64 a] w fun e w' => (∃ b, e = .returned (.float .f64 b) ∧ b < 18446744073709551616) ∧ Below w.heap.size w w' := by
  go_enter Try.func18, Try.ntmps18
  go_wp2_with fail
  refine (nan_any _).mono ?_
  rintro e w1 ⟨rfl, rfl⟩
  go_wp2_with fail
  refine (inf_pos _).mono ?_
  rintro e w1 ⟨rfl, rfl⟩
  go_wp2_with fail
  refine (inf_neg _).mono ?_
  rintro e w1 ⟨rfl, rfl⟩
  go_wp2_with fail
  refine (within_any a 10 _ (by decide) (by decide)).mono ?_
  rintro e w1 ⟨rfl, rfl⟩
  have b1 := Int.emod_nonneg a (show (10 : Int) ≠ 0 by decide)
  have b2 := Int.emod_lt_of_pos a (show (0 : Int) < 10 by decide)
  have hb := fun o => (Below.refl w.heap.size w).alloc (Nat.le_refl _) o
  generalize a % 10 = y at *
  have hy : y = 0 ∨ y = 1 ∨ y = 2 ∨ y = 3 ∨ y = 4 ∨ y = 5 ∨ y = 6 ∨ y = 7 ∨ y = 8 ∨ y = 9 := by omega
  have HBL := Lib.hid hb
  clear b1 b2 hb
  rcases hy with rfl | rfl | rfl | rfl | rfl | rfl | rfl | rfl | rfl | rfl <;>
    (go_wp2_with fail
     go_ret
     exact ⟨⟨_, rfl, by decide⟩, HBL.out _⟩)
end Go.Proofs.Yticbgaflhiokgaa
