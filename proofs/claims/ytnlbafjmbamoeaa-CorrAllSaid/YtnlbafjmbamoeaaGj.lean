/-
  The calls of package math beneath fp, and within: what each call gives, of the bits that came in. No condition but those in the statements.
  Whether two numbers are the same: what the call gives.
-/
import Derived.Test.YtnlbafjmbamoeaaRows
import Derived.Test.YtnlbafjmbamoeaaGb
import Derived.WalkKit
import Derived.WalkSpells
import Derived.WalkLawsBesides
import Derived.Laws.Externs
import Derived.Laws.BitsAllLaws
import Derived.Lib.Hide
import Derived.IntWalk
import Derived.BigQuiet
import Derived.Deep.QuietTactic
import Derived.Test.YtnlbafjmbamoeaaGc
namespace Go.Proofs.Ytnlbafjmbamoeaa
open Go.RowKit

theorem call_bits (n : Nat) (w : World) : (callFunc 57 #[.float .f64 n]).run Try.prog w = .ok (.value (.int .u64 n)) w := by
  rw [run_callFunc_extern (e := Extern.MathFloatBits.float64bits) Try.func57 (by kernel_rfl) (by kernel_rfl) (by kernel_rfl) (by kernel_rfl)]
  rfl
theorem call_frombits (n : Int) (w : World) : (callFunc 54 #[.int .u64 n]).run Try.prog w = .ok (.value (.float .f64 n.toNat)) w := by
  rw [run_callFunc_extern (e := Extern.MathFloatBits.float64frombits) Try.func54 (by kernel_rfl) (by kernel_rfl) (by kernel_rfl) (by kernel_rfl)]
  rfl
theorem alloc_drewN (w : World) (n : Nat) (o : Obj) : (w.drewN n).alloc o = (w.alloc o).drewN n := rfl
theorem setCell_drewN (w : World) (n : Nat) (a : Addr) (v : Value) : (w.drewN n).setCell a v = (w.setCell a v).drewN n := rfl
attribute [local go_sem] alloc_drewN setCell_drewN call_bits call_frombits ord_lt ord_eq ord_gt ord_ne ord_le ord_ge eqB_self

theorem ret_int {k : IntKind} {a b : Int} (h : a = b) : Ending.returned (.int k a) = .returned (.int k b) := by rw [h]
theorem ret_float {a b : Nat} (h : a = b) : Ending.returned (.float .f64 a) = .returned (.float .f64 b) := by rw [h]
theorem ret_bool {a b : Bool} (h : a = b) : Ending.returned (.bool a) = .returned (.bool b) := by rw [h]
theorem emod_of_tmod {a n : Int} (h1 : 1 ≤ n) : (a.tmod n < 0 → a.tmod n + n = a % n) ∧ (0 ≤ a.tmod n → a.tmod n = a % n) := by
  have h2 := Int.emod_nonneg a (show n ≠ 0 by omega)
  have h3 := Int.emod_lt_of_pos a (show 0 < n by omega)
  have h4 : a.tmod n = if 0 ≤ a ∨ n ∣ a then a % n else a % n - n := by
    rw [Int.tmod_eq_emod]; split <;> simp; rw [Int.natAbs_of_nonneg (by omega)]
  rw [h4]; split <;> constructor <;> intro h <;> omega


theorem inf_pos (w : World) : Calls Try.prog 35 #[.int .i64 1] w fun e w' => e = .returned (.float .f64 9218868437227405312) ∧ w = w' := by
  go_enter Try.func35, Try.ntmps35
  go_wp2
  go_ret
  exact ⟨rfl, rfl⟩
theorem inf_neg (w : World) : Calls Try.prog 35 #[.int .i64 (-1)] w fun e w' => e = .returned (.float .f64 18442240474082181120) ∧ w = w' := by
  go_enter Try.func35, Try.ntmps35
  go_wp2
  go_ret
  exact ⟨rfl, rfl⟩

theorem bits_abs {x : Nat} (hx : x < 18446744073709551616) : (bits .andNot .u64 (x : Int) 9223372036854775808).toNat = x % 9223372036854775808 := by
  have h := u64_andNot_nat x 9223372036854775808 hx (by decide)
  have e : ((9223372036854775808 : Nat) : Int) = 9223372036854775808 := rfl
  rw [← e, h, Int.toNat_natCast]
  exact Nat.and_two_pow_sub_one_eq_mod x 63
theorem abs_any (x : Nat) (w : World) (hx : x < 18446744073709551616) : Calls Try.prog 38 #[.float .f64 x] w fun e w' => e = .returned (.float .f64 (x % 9223372036854775808)) ∧ w = w' := by
  go_enter Try.func38, Try.ntmps38
  go_wp2
  go_ret
  exact ⟨ret_float (bits_abs hx), rfl⟩

theorem bits_copysign {x y : Nat} (hx : x < 18446744073709551616) (hy : y < 18446744073709551616) :
    (bits .or .u64 (bits .andNot .u64 (x : Int) 9223372036854775808) (bits .and .u64 (y : Int) 9223372036854775808)).toNat = Ieee.double.word (neg y) (x % 9223372036854775808) := by
  have h1 := u64_andNot_nat x 9223372036854775808 hx (by decide)
  have h2 := u64_and_nat y 9223372036854775808 hy (by decide)
  have e : ((9223372036854775808 : Nat) : Int) = 9223372036854775808 := rfl
  have ex : x &&& (18446744073709551615 - 9223372036854775808) = x % 9223372036854775808 := Nat.and_two_pow_sub_one_eq_mod x 63
  have hm : x % 9223372036854775808 < 9223372036854775808 := Nat.mod_lt _ (by decide)
  have ey : y &&& 9223372036854775808 = if neg y then 9223372036854775808 else 0 := by
    have ht : neg y = y.testBit 63 := by
      unfold neg p63; rw [Nat.testBit_eq_decide_div_mod_eq]; rfl
    rw [show (9223372036854775808 : Nat) = 2 ^ 63 from rfl, ht]
    apply Nat.eq_of_testBit_eq
    intro i
    rw [Nat.testBit_and, Nat.testBit_two_pow]
    by_cases hi : 63 = i
    · subst hi
      cases hb : y.testBit 63
      · simp
      · simp only [if_true, Nat.testBit_two_pow]; simp
    · cases hb : y.testBit 63
      · simp [hi]
      · simp only [if_true, Nat.testBit_two_pow]; simp [hi]
  rw [← e, h1, h2, ex, ey, word_eq]
  cases neg y
  · simp only [Bool.false_eq_true, if_false]
    rw [u64_or_nat _ _ (by omega) (by decide), Int.toNat_natCast, Nat.or_zero]
  · simp only [if_true]
    rw [u64_or_nat _ _ (by omega) (by decide), Int.toNat_natCast]
    have := Nat.two_pow_add_eq_or_of_lt (i := 63) hm 1
    rw [Nat.or_comm]; unfold p63
    simpa using this.symm


end Go.Proofs.Ytnlbafjmbamoeaa

namespace Go.Proofs.Ytnlbafjmbamoeaa
open Go.RowKit
attribute [local go_sem] alloc_drewN setCell_drewN call_bits call_frombits ord_lt ord_eq ord_gt ord_ne ord_le ord_ge eqB_self run_fadd run_fsub run_fmul run_fquo

theorem below_drew {B : Nat} {a w : World} (h : Below B a w) (n : Nat) : Below B a (w.drewN n) := ⟨h.os, h.tape, h.output, h.size, h.block⟩
theorem below_undrew {w w' : World} {n : Nat} (h : Below (w.drewN n).heap.size (w.drewN n) w') : Below w.heap.size w w' := ⟨h.os, h.tape, h.output, h.size, h.block⟩
def sameB (a b : Nat) : Bool := eqB a b || (isN a && isN b)
theorem same_any (a b : Nat) (w : World) : Calls Try.prog 34 #[.float .f64 a, .float .f64 b] w fun e w' => e = .returned (.bool (sameB a b)) ∧ w = w' := by
  go_enter Try.func34, Try.ntmps34
  go_wp2
  all_goals (go_ret; exact ⟨ret_bool (by unfold sameB; simp_all), rfl⟩)
end Go.Proofs.Ytnlbafjmbamoeaa
