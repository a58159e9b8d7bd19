/-
  The calls of package math beneath fp, and within: what each call gives, of the bits that came in. No condition but those in the statements.
  Whether two numbers are the same: what the call gives.
-/
import Derived.Test.YticbgaflhiokgaaRows
import Derived.Test.YticbgaflhiokgaaGb
import Derived.WalkKit
import Derived.WalkSpells
import Derived.WalkLawsBesides
import Derived.Laws.Externs
import Derived.Laws.BitsAllLaws
import Derived.Lib.Hide
import Derived.IntWalk
import Derived.BigQuiet
import Derived.Deep.QuietTactic
import Derived.Test.YticbgaflhiokgaaGc
namespace Go.Proofs.Yticbgaflhiokgaa
open Go.RowKit

theorem call_bits (n : Nat) (w : World) : (callFunc 56 #[.float .f64 n]).run Try.prog w = .ok (.value (.int .u64 n)) w := by
  rw [run_callFunc_extern (e := Extern.MathFloatBits.float64bits) Try.func56 (by kernel_rfl) (by kernel_rfl) (by kernel_rfl) (by kernel_rfl)]
  rfl
theorem call_frombits (n : Int) (w : World) : (callFunc 55 #[.int .u64 n]).run Try.prog w = .ok (.value (.float .f64 n.toNat)) w := by
  rw [run_callFunc_extern (e := Extern.MathFloatBits.float64frombits) Try.func55 (by kernel_rfl) (by kernel_rfl) (by kernel_rfl) (by kernel_rfl)]
  rfl
theorem alloc_drewN (w : World) (n : Nat) (o : Obj) : (w.drewN n).alloc o = (w.alloc o).drewN n := rfl
theorem setCell_drewN (w : World) (n : Nat) (a : Addr) (v : Value) : (w.drewN n).setCell a v = (w.setCell a v).drewN n := rfl
attribute [local go_sem] alloc_drewN setCell_drewN call_bits call_frombits ord_lt ord_eq ord_gt ord_ne ord_le ord_ge eqB_self

theorem ret_int {k : IntKind} {a b : Int} (h : a = b) : Ending.returned (.int k a) = .returned (.int k b) := by rw [h]
theorem ret_float {a b : Nat} (h : a = b) : Ending.returned (.float .f64 a) = .returned (.float .f64 b) := by rw [h]
theorem ret_bool {a b : Bool} (h : a = b) : Ending.returned (.bool a) = .returned (.bool b) := by rw [h]
theorem emod_of_tmod {a n : Int} (h1 : 1 ≤ n) : (a.tmod n < 0 → a.tmod n + n = a % n) ∧ (0 ≤ a.tmod n → a.tmod n = a % n) := by
  have h2 := Int.emod_nonneg a (show n ≠ 0 by omega)
  have h3 := Int.emod_lt_of_pos a (show 0 < n by omega)
  have h4 : a.tmod n = if 0 ≤ a ∨ n ∣ a then a % n else a % n - n := by
    rw [Int.tmod_eq_emod]; split <;> simp; rw [Int.natAbs_of_nonneg (by omega)]
  rw [h4]; split <;> constructor <;> intro h <;> omega

theorem within_any (a n : Int) (w : World) (h1 : 1 ≤ n) (h2 : n ≤ 9223372036854775807) :
    Calls Try.prog 43 #[.int .i64 a, .int .i64 n] w fun e w' => e = .returned (.int .i64 (a % n)) ∧ w = w' := by
  have h2' := Int.emod_nonneg a (show n ≠ 0 by omega)
  have h3 := Int.emod_lt_of_pos a (show 0 < n by omega)
  have h := emod_of_tmod (a := a) h1
  have H := Lib.hid h
  clear h
  go_enter Try.func43, Try.ntmps43
  go_wp2
  · go_ret
    refine ⟨?_, rfl⟩
    have := H.out.1 (by assumption)
    exact ret_int (by rw [this]; unfold wrap64; omega)
  · go_ret
    refine ⟨?_, rfl⟩
    exact ret_int (H.out.2 (by assumption))

theorem nan_any (w : World) : Calls Try.prog 42 #[] w fun e w' => e = .returned (.float .f64 nanB) ∧ w = w' := by
  go_enter Try.func42, Try.ntmps42
  go_wp2
  go_ret
  exact ⟨rfl, rfl⟩
theorem inf_pos (w : World) : Calls Try.prog 33 #[.int .i64 1] w fun e w' => e = .returned (.float .f64 9218868437227405312) ∧ w = w' := by
  go_enter Try.func33, Try.ntmps33
  go_wp2
  go_ret
  exact ⟨rfl, rfl⟩
theorem inf_neg (w : World) : Calls Try.prog 33 #[.int .i64 (-1)] w fun e w' => e = .returned (.float .f64 18442240474082181120) ∧ w = w' := by
  go_enter Try.func33, Try.ntmps33
  go_wp2
  go_ret
  exact ⟨rfl, rfl⟩
theorem isnan_any (x : Nat) (w : World) : Calls Try.prog 76 #[.float .f64 x] w fun e w' => e = .returned (.bool (isN x)) ∧ w = w' := by
  go_enter Try.func76, Try.ntmps76
  go_wp2
  go_ret
  simp

theorem bits_abs {x : Nat} (hx : x < 18446744073709551616) : (bits .andNot .u64 (x : Int) 9223372036854775808).toNat = x % 9223372036854775808 := by
  have h := u64_andNot_nat x 9223372036854775808 hx (by decide)
  have e : ((9223372036854775808 : Nat) : Int) = 9223372036854775808 := rfl
  rw [← e, h, Int.toNat_natCast]
  exact Nat.and_two_pow_sub_one_eq_mod x 63
theorem abs_any (x : Nat) (w : World) (hx : x < 18446744073709551616) : Calls Try.prog 28 #[.float .f64 x] w fun e w' => e = .returned (.float .f64 (x % 9223372036854775808)) ∧ w = w' := by
  go_enter Try.func28, Try.ntmps28
  go_wp2
  go_ret
  exact ⟨ret_float (bits_abs hx), rfl⟩

theorem bits_copysign {x y : Nat} (hx : x < 18446744073709551616) (hy : y < 18446744073709551616) :
    (bits .or .u64 (bits .andNot .u64 (x : Int) 9223372036854775808) (bits .and .u64 (y : Int) 9223372036854775808)).toNat = Ieee.double.word (neg y) (x % 9223372036854775808) := by
  have h1 := u64_andNot_nat x 9223372036854775808 hx (by decide)
  have h2 := u64_and_nat y 9223372036854775808 hy (by decide)
  have e : ((9223372036854775808 : Nat) : Int) = 9223372036854775808 := rfl
  have ex : x &&& (18446744073709551615 - 9223372036854775808) = x % 9223372036854775808 := Nat.and_two_pow_sub_one_eq_mod x 63
  have hm : x % 9223372036854775808 < 9223372036854775808 := Nat.mod_lt _ (by decide)
  have ey : y &&& 9223372036854775808 = if neg y then 9223372036854775808 else 0 := by
    have ht : neg y = y.testBit 63 := by
      unfold neg p63; rw [Nat.testBit_eq_decide_div_mod_eq]; rfl
    rw [show (9223372036854775808 : Nat) = 2 ^ 63 from rfl, ht]
    apply Nat.eq_of_testBit_eq
    intro i
    rw [Nat.testBit_and, Nat.testBit_two_pow]
    by_cases hi : 63 = i
    · subst hi
      cases hb : y.testBit 63
      · simp
      · simp only [if_true, Nat.testBit_two_pow]; simp
    · cases hb : y.testBit 63
      · simp [hi]
      · simp only [if_true, Nat.testBit_two_pow]; simp [hi]
  rw [← e, h1, h2, ex, ey, word_eq]
  cases neg y
  · simp only [Bool.false_eq_true, if_false]
    rw [u64_or_nat _ _ (by omega) (by decide), Int.toNat_natCast, Nat.or_zero]
  · simp only [if_true]
    rw [u64_or_nat _ _ (by omega) (by decide), Int.toNat_natCast]
    have := Nat.two_pow_add_eq_or_of_lt (i := 63) hm 1
    rw [Nat.or_comm]; unfold p63
    simpa using this.symm
theorem copysign_any (x y : Nat) (w : World) (hx : x < 18446744073709551616) (hy : y < 18446744073709551616) : Calls Try.prog 95 #[.float .f64 x, .float .f64 y] w fun e w' => e = .returned (.float .f64 (Ieee.double.word (neg y) (x % 9223372036854775808))) ∧ w = w' := by
  go_enter Try.func95, Try.ntmps95
  go_wp2
  go_ret
  exact ⟨ret_float (bits_copysign hx hy), rfl⟩

theorem next_up (x : Nat) (w : World) (hx : x < 18446744073709551616) : Calls Try.prog 101 #[.float .f64 x, .float .f64 9218868437227405312] w fun e w' => e = .returned (.float .f64 (upB x)) ∧ w = w' := by
  have i1 : isN 9218868437227405312 = false := by decide
  by_cases hN : isN x = true
  · have hr : upB x = nanB := by unfold upB; rw [if_pos hN]
    rw [hr]
    go_enter Try.func101, Try.ntmps101
    go_wp2_with (first | (go_at_call 76; refine (isnan_any _ _).mono ?_; rintro e w' ⟨rfl, rfl⟩) | (go_at_call 42; refine (nan_any _).mono ?_; rintro e w' ⟨rfl, rfl⟩))
    go_ret
    exact ⟨rfl, rfl⟩
  · have hN' : isN x = false := by simpa using hN
    clear hN
    by_cases h1 : x = infR
    · subst h1
      have hr : upB infR = infR := by decide
      rw [hr]
      have e1 : eqB infR 9218868437227405312 = true := by decide
      go_enter Try.func101, Try.ntmps101
      go_wp2_with (first | (go_at_call 76; refine (isnan_any _ _).mono ?_; rintro e w' ⟨rfl, rfl⟩))
      go_ret
      exact ⟨rfl, rfl⟩
    · have hk := key_abs hN'
      have hkne : key x ≠ infR := fun e => by
        rcases of_key (y := infR) hx (by decide) (e.trans (by decide)) with g | g
        · exact h1 g
        · exact absurd g.2 (by decide)
      have e1 : eqB x 9218868437227405312 = false := by
        unfold eqB; rw [hN', i1, show key 9218868437227405312 = (infR : Int) by decide]; simp [hkne]
      by_cases h2 : x % p63 = 0
      · have hr : upB x = 1 := by unfold upB; rw [hN', if_neg (by decide), if_neg h1, if_pos h2]
        rw [hr]
        have e2 : eqB x 0 = true := by
          unfold eqB; rw [hN', show isN 0 = false by decide, show key 0 = 0 by decide]
          have : key x = 0 := by unfold key; rw [h2]; simp
          simp [this]
        clear hkne hk h2 hr
        go_enter Try.func101, Try.ntmps101
        go_wp2_with (first | (go_at_call 76; refine (isnan_any _ _).mono ?_; rintro e w' ⟨rfl, rfl⟩) | (go_at_call 95; refine (copysign_any _ _ _ (by decide) (by decide)).mono ?_; rintro e w' ⟨rfl, rfl⟩))
        go_ret
        exact ⟨ret_float (by decide), rfl⟩
      · have e2 : eqB x 0 = false := by
          unfold eqB; rw [hN', show isN 0 = false by decide, show key 0 = 0 by decide]
          have : key x ≠ 0 := by unfold key; split <;> omega
          simp [this]
        have e3 : ltB x 9218868437227405312 = true := by
          unfold ltB; rw [hN', i1, show key 9218868437227405312 = (infR : Int) by decide]
          have : key x < infR := by omega
          simp [this]
        cases hn : neg x
        · have hr : upB x = x + 1 := by unfold upB; rw [hN', if_neg (by decide), if_neg h1, if_neg h2, hn, if_neg (by decide)]
          rw [hr]
          obtain ⟨a1, a2, a3⟩ := neg_false hx hn
          have e4 : ltB 0 x = true := by
            unfold ltB; rw [hN', show isN 0 = false by decide, show key 0 = 0 by decide]
            have : 0 < key x := by omega
            simp [this]
          unfold p63 at a1
          clear hkne hk h2 hr a2 a3 h1
          go_enter Try.func101, Try.ntmps101
          go_wp2_with (first | (go_at_call 76; refine (isnan_any _ _).mono ?_; rintro e w' ⟨rfl, rfl⟩))
          go_ret
          exact ⟨rfl, rfl⟩
        · have hr : upB x = x - 1 := by unfold upB; rw [hN', if_neg (by decide), if_neg h1, if_neg h2, hn, if_pos rfl]
          rw [hr]
          obtain ⟨a1, a2, a3⟩ := neg_true hx hn
          have e4 : ltB 0 x = false := by
            unfold ltB; rw [hN', show isN 0 = false by decide, show key 0 = 0 by decide]
            have : ¬ 0 < key x := by omega
            simp [this]
          unfold p63 at a1
          clear hkne hk h2 hr a2 a3 h1
          go_enter Try.func101, Try.ntmps101
          go_wp2_with (first | (go_at_call 76; refine (isnan_any _ _).mono ?_; rintro e w' ⟨rfl, rfl⟩))
          go_ret
          exact ⟨rfl, rfl⟩

theorem next_down (x : Nat) (w : World) (hx : x < 18446744073709551616) : Calls Try.prog 101 #[.float .f64 x, .float .f64 18442240474082181120] w fun e w' => e = .returned (.float .f64 (downB x)) ∧ w = w' := by
  have i1 : isN 18442240474082181120 = false := by decide
  by_cases hN : isN x = true
  · have hr : downB x = nanB := by unfold downB; rw [if_pos hN]
    rw [hr]
    go_enter Try.func101, Try.ntmps101
    go_wp2_with (first | (go_at_call 76; refine (isnan_any _ _).mono ?_; rintro e w' ⟨rfl, rfl⟩) | (go_at_call 42; refine (nan_any _).mono ?_; rintro e w' ⟨rfl, rfl⟩))
    go_ret
    exact ⟨rfl, rfl⟩
  · have hN' : isN x = false := by simpa using hN
    clear hN
    by_cases h1 : x = p63 + infR
    · subst h1
      have hr : downB (p63 + infR) = p63 + infR := by decide
      rw [hr]
      rw [show p63 + infR = 18442240474082181120 by decide] at *
      have e1 : eqB 18442240474082181120 18442240474082181120 = true := by decide
      go_enter Try.func101, Try.ntmps101
      go_wp2_with (first | (go_at_call 76; refine (isnan_any _ _).mono ?_; rintro e w' ⟨rfl, rfl⟩))
      go_ret
      exact ⟨rfl, rfl⟩
    · have hk := key_abs hN'
      have hkne : key x ≠ -(infR : Int) := fun e => by
        rcases of_key (y := p63 + infR) hx (by decide) (e.trans (by decide)) with g | g
        · exact h1 g
        · exact absurd g.2 (by decide)
      have e1 : eqB x 18442240474082181120 = false := by
        unfold eqB; rw [hN', i1, show key 18442240474082181120 = -(infR : Int) by decide]; simp [hkne]
      by_cases h2 : x % p63 = 0
      · have hr : downB x = p63 + 1 := by unfold downB; rw [hN', if_neg (by decide), if_neg h1, if_pos h2]
        rw [hr]
        have e2 : eqB x 0 = true := by
          unfold eqB; rw [hN', show isN 0 = false by decide, show key 0 = 0 by decide]
          have : key x = 0 := by unfold key; rw [h2]; simp
          simp [this]
        clear hkne hk h2 hr
        go_enter Try.func101, Try.ntmps101
        go_wp2_with (first | (go_at_call 76; refine (isnan_any _ _).mono ?_; rintro e w' ⟨rfl, rfl⟩) | (go_at_call 95; refine (copysign_any _ _ _ (by decide) (by decide)).mono ?_; rintro e w' ⟨rfl, rfl⟩))
        go_ret
        exact ⟨ret_float (by decide), rfl⟩
      · have e2 : eqB x 0 = false := by
          unfold eqB; rw [hN', show isN 0 = false by decide, show key 0 = 0 by decide]
          have : key x ≠ 0 := by unfold key; split <;> omega
          simp [this]
        have e3 : ltB x 18442240474082181120 = false := by
          unfold ltB; rw [hN', i1, show key 18442240474082181120 = -(infR : Int) by decide]
          have : ¬ key x < -(infR : Int) := by omega
          simp [this]
        cases hn : neg x
        · have hr : downB x = x - 1 := by unfold downB; rw [hN', if_neg (by decide), if_neg h1, if_neg h2, hn, if_neg (by decide)]
          rw [hr]
          obtain ⟨a1, a2, a3⟩ := neg_false hx hn
          have e4 : ltB 0 x = true := by
            unfold ltB; rw [hN', show isN 0 = false by decide, show key 0 = 0 by decide]
            have : 0 < key x := by omega
            simp [this]
          have a4 : 1 ≤ x := by omega
          unfold p63 at a1
          clear hkne hk h2 hr a2 a3 h1
          go_enter Try.func101, Try.ntmps101
          go_wp2_with (first | (go_at_call 76; refine (isnan_any _ _).mono ?_; rintro e w' ⟨rfl, rfl⟩))
          go_ret
          exact ⟨rfl, rfl⟩
        · have hr : downB x = x + 1 := by unfold downB; rw [hN', if_neg (by decide), if_neg h1, if_neg h2, hn, if_pos rfl]
          rw [hr]
          obtain ⟨a1, a2, a3⟩ := neg_true hx hn
          have e4 : ltB 0 x = false := by
            unfold ltB; rw [hN', show isN 0 = false by decide, show key 0 = 0 by decide]
            have : ¬ 0 < key x := by omega
            simp [this]
          have a4 : x + 1 < 18446744073709551616 := by have := isN_false hN'; unfold infR at this; unfold p63 at *; omega
          unfold p63 at a1
          clear hkne hk h2 hr a2 a3 h1
          go_enter Try.func101, Try.ntmps101
          go_wp2_with (first | (go_at_call 76; refine (isnan_any _ _).mono ?_; rintro e w' ⟨rfl, rfl⟩))
          go_ret
          exact ⟨rfl, rfl⟩

/-- The whole of 'Up', 'Down', the program's and the document's. -/
theorem up_any (x : Nat) (w : World) (hx : x < 18446744073709551616) : Calls Try.prog 99 #[.float .f64 x] w fun e w' => e = .returned (.float .f64 (upB x)) ∧ w = w' := by
  go_enter Try.func99, Try.ntmps99
  go_wp2_with (first | (go_at_call 33; refine (inf_pos _).mono ?_; rintro e w' ⟨rfl, rfl⟩) | (go_at_call 101; refine (next_up _ _ hx).mono ?_; rintro e w' ⟨rfl, rfl⟩))
  go_ret
  exact ⟨rfl, rfl⟩
theorem down_any (x : Nat) (w : World) (hx : x < 18446744073709551616) : Calls Try.prog 98 #[.float .f64 x] w fun e w' => e = .returned (.float .f64 (downB x)) ∧ w = w' := by
  go_enter Try.func98, Try.ntmps98
  go_wp2_with (first | (go_at_call 33; refine (inf_neg _).mono ?_; rintro e w' ⟨rfl, rfl⟩) | (go_at_call 101; refine (next_down _ _ hx).mono ?_; rintro e w' ⟨rfl, rfl⟩))
  go_ret
  exact ⟨rfl, rfl⟩
theorem rup_any (x : Nat) (w : World) (hx : x < 18446744073709551616) : Calls Try.prog 90 #[.float .f64 x] w fun e w' => e = .returned (.float .f64 (upB x)) ∧ w = w' := by
  go_enter Try.func90, Try.ntmps90
  go_wp2_with (first | (go_at_call 33; refine (inf_pos _).mono ?_; rintro e w' ⟨rfl, rfl⟩) | (go_at_call 101; refine (next_up _ _ hx).mono ?_; rintro e w' ⟨rfl, rfl⟩))
  go_ret
  exact ⟨rfl, rfl⟩
theorem rdown_any (x : Nat) (w : World) (hx : x < 18446744073709551616) : Calls Try.prog 89 #[.float .f64 x] w fun e w' => e = .returned (.float .f64 (downB x)) ∧ w = w' := by
  go_enter Try.func89, Try.ntmps89
  go_wp2_with (first | (go_at_call 33; refine (inf_neg _).mono ?_; rintro e w' ⟨rfl, rfl⟩) | (go_at_call 101; refine (next_down _ _ hx).mono ?_; rintro e w' ⟨rfl, rfl⟩))
  go_ret
  exact ⟨rfl, rfl⟩

end Go.Proofs.Yticbgaflhiokgaa

namespace Go.Proofs.Yticbgaflhiokgaa
open Go.RowKit
attribute [local go_sem] alloc_drewN setCell_drewN call_bits call_frombits ord_lt ord_eq ord_gt ord_ne ord_le ord_ge eqB_self run_fadd run_fsub run_fmul run_fquo

theorem below_drew {B : Nat} {a w : World} (h : Below B a w) (n : Nat) : Below B a (w.drewN n) := ⟨h.os, h.tape, h.output, h.size, h.block⟩
theorem below_undrew {w w' : World} {n : Nat} (h : Below (w.drewN n).heap.size (w.drewN n) w') : Below w.heap.size w w' := ⟨h.os, h.tape, h.output, h.size, h.block⟩
def sameB (a b : Nat) : Bool := eqB a b || (isN a && isN b)
theorem same_any (a b : Nat) (w : World) : Calls Try.prog 37 #[.float .f64 a, .float .f64 b] w fun e w' => e = .returned (.bool (sameB a b)) ∧ w = w' := by
  go_enter Try.func37, Try.ntmps37
  go_wp2
  all_goals (go_ret; exact ⟨ret_bool (by unfold sameB; simp_all), rfl⟩)
end Go.Proofs.Yticbgaflhiokgaa
