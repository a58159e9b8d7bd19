/-
  Scaling by a power of two, sums and products with what is left, and the tests of fp, the program's and the document's: what each call gives, of the bits that came in.
  Scaling by a power of two: what the library's call gives, of a finite number that is not 0.
  Numbers made of whole numbers, rare ones, and whether two are the same: what each call gives.
-/
import Derived.Test.YtainodgbcpkipaaGj
import Derived.Test.YtainodgbcpkipaaGb
import Derived.Test.YtainodgbcpkipaaGc
namespace Go.Proofs.Ytainodgbcpkipaa
open Go.RowKit
attribute [local go_sem] alloc_drewN setCell_drewN call_bits call_frombits ord_lt ord_eq ord_gt ord_ne ord_le ord_ge eqB_self run_fadd run_fsub run_fmul run_fquo

theorem max_lt (x : Nat) : ltB 9218868437227405311 (x % 9223372036854775808) = decide (x % p63 = infR) := by
  unfold ltB
  have h1 : isN (x % 9223372036854775808) = isN x := by unfold isN p63; rw [Nat.mod_mod]
  have h2 : key (x % 9223372036854775808) = ((x % p63 : Nat) : Int) := by
    unfold key p63; rw [Nat.mod_mod, if_neg (by omega)]
  have h3 : key 9218868437227405311 = 9218868437227405311 := by decide
  have h4 : isN 9218868437227405311 = false := by decide
  rw [h1, h2, h3, h4]
  unfold isN infR
  rw [Bool.eq_iff_iff]; simp; omega


theorem norm_lt {x : Nat} (h : isN x = false) : ltB (x % 9223372036854775808) 4503599627370496 = decide (x % p63 < p52) := by
  unfold ltB
  have h1 : isN (x % 9223372036854775808) = isN x := by unfold isN p63; rw [Nat.mod_mod]
  have h2 : key (x % 9223372036854775808) = ((x % p63 : Nat) : Int) := by
    unfold key p63; rw [Nat.mod_mod, if_neg (by omega)]
  have h3 : key 4503599627370496 = 4503599627370496 := by decide
  have h4 : isN 4503599627370496 = false := by decide
  rw [h1, h2, h3, h4, h]
  rw [Bool.eq_iff_iff]; unfold p52; simp; omega



end Go.Proofs.Ytainodgbcpkipaa

namespace Go.Proofs.Ytainodgbcpkipaa
open Go.RowKit
attribute [local go_sem] alloc_drewN setCell_drewN call_bits call_frombits ord_lt ord_eq ord_gt ord_ne ord_le ord_ge eqB_self run_fadd run_fsub run_fmul run_fquo


theorem bits_field {Y : Nat} (hY : Y < 18446744073709551616) : bits .and .i64 (Y / 4503599627370496 : Int) 2047 = ((Y % p63 / p52 : Nat) : Int) := by
  have e : ((Y : Int) / 4503599627370496) = ((Y / 4503599627370496 : Nat) : Int) := by omega
  rw [e]
  have hlt : Y / 4503599627370496 < 18446744073709551616 := by omega
  show IntKind.i64.wrap ((BitVec.ofInt 64 ((Y / 4503599627370496 : Nat) : Int) &&& BitVec.ofInt 64 ((2047 : Nat) : Int)).toNat : Int) = _
  rw [BitVec.toNat_and, ofInt_u64 _ hlt, ofInt_u64 _ (by decide), show (2047 : Nat) = 2 ^ 11 - 1 from rfl, Nat.and_two_pow_sub_one_eq_mod, IntKind.wrap_i64]
  unfold p63 p52
  omega

theorem bits_set {Y T : Nat} (hY : Y < 18446744073709551616) (hT : T ≤ 2046) :
    bits .or .u64 (bits .andNot .u64 (Y : Int) 9218868437227405312) ((T : Int) * 4503599627370496) = ((Ieee.double.word (neg Y) (T * p52 + Y % p63 % p52) : Nat) : Int) := by
  have h1 := u64_andNot_nat Y 9218868437227405312 hY (by decide)
  have e : ((9218868437227405312 : Nat) : Int) = 9218868437227405312 := rfl
  have em : (18446744073709551615 - 9218868437227405312 : Nat) = 2 ^ 63 ||| (2 ^ 52 - 1) := by decide
  have hm : Y % p63 % p52 = Y % 2 ^ 52 := by unfold p63 p52; omega
  have hf : Y % 2 ^ 52 < 2 ^ 52 := Nat.mod_lt _ (by decide)
  have ey : Y &&& 2 ^ 63 = if neg Y then 2 ^ 63 else 0 := by
    have ht : neg Y = Y.testBit 63 := by
      unfold neg p63; rw [Nat.testBit_eq_decide_div_mod_eq]; rfl
    rw [ht]
    apply Nat.eq_of_testBit_eq
    intro i
    rw [Nat.testBit_and, Nat.testBit_two_pow]
    by_cases hi : 63 = i
    · subst hi
      cases hb : Y.testBit 63
      · simp
      · simp only [if_true, Nat.testBit_two_pow]; simp
    · cases hb : Y.testBit 63
      · simp [hi]
      · simp only [if_true, Nat.testBit_two_pow]; simp [hi]
  rw [← e, h1, em, Nat.and_or_distrib_left, ey, Nat.and_two_pow_sub_one_eq_mod, hm, word_eq]
  have hb : T * p52 + Y % 2 ^ 52 < 2 ^ 63 := by unfold p52; omega
  have c1 : T * p52 ||| Y % 2 ^ 52 = T * p52 + Y % 2 ^ 52 := by
    have := Nat.two_pow_add_eq_or_of_lt (i := 52) hf T
    rw [show T * p52 = 2 ^ 52 * T by unfold p52; omega]; exact this.symm
  have c2 : 2 ^ 63 ||| (T * p52 + Y % 2 ^ 52) = 2 ^ 63 + (T * p52 + Y % 2 ^ 52) := by
    have := Nat.two_pow_add_eq_or_of_lt (i := 63) hb 1
    rw [Nat.mul_one] at this; exact this.symm
  have hc : ((T : Int) * 4503599627370496) = ((T * p52 : Nat) : Int) := by unfold p52; omega
  rw [hc]
  cases neg Y
  · simp only [Bool.false_eq_true, if_false, Nat.zero_or]
    rw [u64_or_nat _ _ (by omega) (by unfold p52; omega), Nat.or_comm, c1]
  · simp only [if_true]
    have hl : 2 ^ 63 ||| Y % 2 ^ 52 < 18446744073709551616 := Nat.or_lt_two_pow (n := 64) (by decide) (by omega)
    rw [u64_or_nat _ _ hl (by unfold p52; omega), Nat.or_assoc, Nat.or_comm (Y % 2 ^ 52), c1, c2]
    rfl

theorem ltB_zero {Y : Nat} (hN : isN Y = false) (h0 : Y % p63 ≠ 0) : ltB Y 0 = neg Y := by
  unfold ltB; rw [hN, show isN 0 = false by decide, show key 0 = 0 by decide]
  rw [key_eq]; unfold sgd
  cases neg Y <;> simp <;> omega

theorem mul_one_fin {Z : Nat} (hZ : Z < 18446744073709551616) (h : Z % p63 < infR) : Ieee.double.mul 4607182418800017408 Z = some Z := by
  obtain ⟨K, hK, hc⟩ : ∃ K, K = 1022 ∧ U (4607182418800017408 % p63) = 2 ^ (52 + K) := by
    obtain ⟨K, hK⟩ : ∃ K, K = 4607182418800017408 % p63 / p52 - 1 := ⟨_, rfl⟩
    have h1 : p52 + 4607182418800017408 % p63 % p52 = 2 ^ 52 := by decide
    exact ⟨K, by rw [hK]; decide, U_parts (by decide) hK.symm h1⟩
  rw [mul_fin (by decide) h, hc, Nat.mul_comm, show (-2148 : Int) = -1074 - ((52 + K : Nat) : Int) by omega, rungOf_scale, rungOf_U (Nat.le_of_lt h),
    show (neg 4607182418800017408 ^^ neg Z) = neg Z by rw [show neg 4607182418800017408 = false by decide]; cases neg Z <;> rfl, word_self hZ]

/-- 2^-53 times a word. -/
theorem mul_small {E f : Nat} (s : Bool) (e : Int) (hf : f < p52) (hE : E ≤ 2046) (hE1 : 1 ≤ E) (he : (E : Int) = e + 1076) :
    Ieee.double.mul 4368491638549381120 (Ieee.double.word s (E * p52 + f)) = some (Ieee.double.word s (rungOf (p52 + f) (e - 52))) := by
  obtain ⟨K, hK, hc⟩ : ∃ K, K = 969 ∧ U (4368491638549381120 % p63) = 2 ^ (52 + K) := by
    obtain ⟨K, hK⟩ : ∃ K, K = 4368491638549381120 % p63 / p52 - 1 := ⟨_, rfl⟩
    have h1 : p52 + 4368491638549381120 % p63 % p52 = 2 ^ 52 := by decide
    exact ⟨K, by rw [hK]; decide, U_parts (by decide) hK.symm h1⟩
  have hi : infR = 2047 * p52 := by decide
  have hlt : E * p52 + f < infR := by
    have := Nat.mul_le_mul_right p52 hE; omega
  have d1 : (E * p52 + f) / p52 = E := by
    apply Nat.div_eq_of_lt_le
    · omega
    · rw [Nat.add_mul]; omega
  have d2 : (E * p52 + f) % p52 = f := by
    have := Nat.div_add_mod (E * p52 + f) p52; rw [d1, Nat.mul_comm] at this; omega
  have hU : U (E * p52 + f) = (p52 + f) * 2 ^ (E - 1) := by
    unfold U; rw [d1, d2, if_neg]
    have := Nat.mul_le_mul_right p52 hE1; omega
  rw [mul_fin (by decide) (by rw [word_mod s (Nat.le_of_lt hlt)]; exact hlt), word_mod s (Nat.le_of_lt hlt), word_neg s (Nat.le_of_lt hlt), hc, hU, Nat.mul_comm, Nat.mul_assoc, ← Nat.pow_add,
    show (-2148 : Int) = e - 52 - ((E - 1 + (52 + K) : Nat) : Int) by omega, rungOf_scale,
    show (neg 4368491638549381120 ^^ s) = s by rw [show neg 4368491638549381120 = false by decide]; cases s <;> rfl]



end Go.Proofs.Ytainodgbcpkipaa

namespace Go.Proofs.Ytainodgbcpkipaa
open Go.RowKit
attribute [local go_sem] alloc_drewN setCell_drewN call_bits call_frombits ord_lt ord_eq ord_gt ord_ne ord_le ord_ge eqB_self run_fadd run_fsub run_fmul run_fquo


def rareB (n : Int) : Nat := if n = 0 then nanB else if n = 1 then 9218868437227405312 else if n = 2 then 18442240474082181120 else if n = 3 then 0 else if n = 4 then 1 else if n = 5 then 18442240474082181119 else if n = 6 then 9218868437227405311 else if n = 7 then 4607182418800017408 else if n = 8 then 4602678819172646912 else 13835058055282163712
theorem rare_any (n : Int) (w : World) : Calls Try.prog 31 #[.int .i64 n] w fun e w' => e = .returned (.float .f64 (rareB (n % 10))) ∧ Below w.heap.size w w' := by
  have h1 := Int.emod_nonneg n (show (10 : Int) ≠ 0 by decide)
  have h2 := Int.emod_lt_of_pos n (show (0 : Int) < 10 by decide)
  go_enter Try.func31, Try.ntmps31
  go_wp2_with (first | (go_at_call 51; refine (within_any _ _ _ (by decide) (by decide)).mono ?_; rintro e w' ⟨rfl, rfl⟩) | (go_at_call 49; refine (nan_any _).mono ?_; rintro e w' ⟨rfl, rfl⟩) | (go_at_call 50; first | (with_reducible refine (inf_pos _).mono ?_; rintro e w' ⟨rfl, rfl⟩) | (with_reducible refine (inf_neg _).mono ?_; rintro e w' ⟨rfl, rfl⟩)))
  go_ret
  refine ⟨?_, (Below.refl _ _).alloc (Nat.le_refl _) _⟩
  generalize n % 10 = k at *
  have hk : k = 0 ∨ k = 1 ∨ k = 2 ∨ k = 3 ∨ k = 4 ∨ k = 5 ∨ k = 6 ∨ k = 7 ∨ k = 8 ∨ k = 9 := by omega
  rcases hk with rfl | rfl | rfl | rfl | rfl | rfl | rfl | rfl | rfl | rfl <;> rfl
theorem rareB_lt (k : Int) : rareB k < 18446744073709551616 := by unfold rareB nanB; split <;> (try split) <;> (try split) <;> (try split) <;> (try split) <;> (try split) <;> (try split) <;> (try split) <;> (try split) <;> omega


end Go.Proofs.Ytainodgbcpkipaa
