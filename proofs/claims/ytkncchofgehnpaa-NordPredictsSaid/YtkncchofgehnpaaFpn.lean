/-
  Numbers made of whole numbers, rare ones, and whether two are the same: what each call gives.
-/
import Derived.Test.YtkncchofgehnpaaFpc
import Derived.Test.YtkncchofgehnpaaMf
namespace Go.Proofs.Ytkncchofgehnpaa
open Go.RowKit
attribute [local go_sem] alloc_drewN setCell_drewN call_bits call_frombits ord_lt ord_eq ord_gt ord_ne ord_le ord_ge eqB_self run_fadd run_fsub run_fmul run_fquo

theorem below_drew {B : Nat} {a w : World} (h : Below B a w) (n : Nat) : Below B a (w.drewN n) := ⟨h.os, h.tape, h.output, h.size, h.block⟩
theorem below_undrew {w w' : World} {n : Nat} (h : Below (w.drewN n).heap.size (w.drewN n) w') : Below w.heap.size w w' := ⟨h.os, h.tape, h.output, h.size, h.block⟩
def sameB (a b : Nat) : Bool := eqB a b || (isN a && isN b)
theorem same_any (a b : Nat) (w : World) : Calls Try.prog 35 #[.float .f64 a, .float .f64 b] w fun e w' => e = .returned (.bool (sameB a b)) ∧ w = w' := by
  go_enter Try.func35, Try.ntmps35
  go_wp2
  all_goals (go_ret; exact ⟨ret_bool (by unfold sameB; simp_all), rfl⟩)

def rareB (n : Int) : Nat := if n = 0 then nanB else if n = 1 then 9218868437227405312 else if n = 2 then 18442240474082181120 else if n = 3 then 0 else if n = 4 then 1 else if n = 5 then 18442240474082181119 else if n = 6 then 9218868437227405311 else if n = 7 then 4607182418800017408 else if n = 8 then 4602678819172646912 else 13835058055282163712
theorem rareB_lt (k : Int) : rareB k < 18446744073709551616 := by unfold rareB nanB; split <;> (try split) <;> (try split) <;> (try split) <;> (try split) <;> (try split) <;> (try split) <;> (try split) <;> (try split) <;> omega


end Go.Proofs.Ytkncchofgehnpaa
