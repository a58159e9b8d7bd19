/-
  Whether two numbers are the same: what the call gives.
-/
import Derived.Test.YtbepaoliboooaaaFpa
import Derived.Test.YtbepaoliboooaaaMf
namespace Go.Proofs.Ytbepaoliboooaaa
open Go.RowKit
attribute [local go_sem] alloc_drewN setCell_drewN call_bits call_frombits ord_lt ord_eq ord_gt ord_ne ord_le ord_ge eqB_self run_fadd run_fsub run_fmul run_fquo

theorem below_drew {B : Nat} {a w : World} (h : Below B a w) (n : Nat) : Below B a (w.drewN n) := ⟨h.os, h.tape, h.output, h.size, h.block⟩
theorem below_undrew {w w' : World} {n : Nat} (h : Below (w.drewN n).heap.size (w.drewN n) w') : Below w.heap.size w w' := ⟨h.os, h.tape, h.output, h.size, h.block⟩
def sameB (a b : Nat) : Bool := eqB a b || (isN a && isN b)
theorem same_any (a b : Nat) (w : World) : Calls Try.prog 49 #[.float .f64 a, .float .f64 b] w fun e w' => e = .returned (.bool (sameB a b)) ∧ w = w' := by
  go_enter Try.func49, Try.ntmps49
  go_wp2
  all_goals (go_ret; exact ⟨ret_bool (by unfold sameB; simp_all), rfl⟩)
end Go.Proofs.Ytbepaoliboooaaa
