/-
  What scaling by a power of two comes to, as the library does it. No condition but those in the statements.
-/
import Derived.Test.YtbepaoliboooaaaMd
namespace Go.Proofs.Ytbepaoliboooaaa
open Ieee (double)

theorem log2_full {f : Nat} (hf : f < p52) : (p52 + f).log2 = 52 := by
  rw [Nat.log2_eq_iff (by have : 0 < p52 := (by decide); omega)]
  have e1 : (2 : Nat) ^ 52 = p52 := by decide
  have e2 : (2 : Nat) ^ (52 + 1) = 2 * p52 := by decide
  rw [e1, e2]; omega

theorem rne_tiny {n d : Nat} (h : 2 * n < 2 ^ d) : rne n d = 0 := by
  unfold rne
  rw [Nat.div_eq_of_lt (by omega), Nat.mod_eq_of_lt (by omega), if_neg (by omega)]

/-- The four ways of the library. -/
theorem ld_core {E f : Nat} (hE : 1 ≤ E) (hf : f < p52) (k e : Int) (he : e = k + E - 1023) :
    (e < -1075 → rungOf ((p52 + f) * 2 ^ (E - 1)) (k - 1074) = 0) ∧
    (1023 < e → rungOf ((p52 + f) * 2 ^ (E - 1)) (k - 1074) = infR) ∧
    (-1022 ≤ e → e ≤ 1023 → rungOf ((p52 + f) * 2 ^ (E - 1)) (k - 1074) = (e + 1023).toNat * p52 + f) ∧
    rungOf ((p52 + f) * 2 ^ (E - 1)) (k - 1074) = rungOf (p52 + f) (e - 52) := by
  have h0 : rungOf ((p52 + f) * 2 ^ (E - 1)) (k - 1074) = rungOf (p52 + f) (e - 52) := by
    have := rungOf_scale (p52 + f) (e - 52) (E - 1)
    rw [show e - 52 - ((E - 1 : Nat) : Int) = k - 1074 by omega] at this
    exact this
  have hl := log2_full hf
  have hp : p52 + f ≠ 0 := by have : 0 < p52 := (by decide); omega
  have hi : infR = 2047 * p52 := by decide
  have mid : -1023 < e → rungOf (p52 + f) (e - 52) = min ((e + 1022).toNat * p52 + (p52 + f)) infR := by
    intro h
    unfold rungOf
    rw [if_neg hp, hl]
    have m1 : max (e - 52 + ((52 : Nat) : Int) - 52) (-1074) = e - 52 := by omega
    rw [m1]
    have m2 : (e - 52 - (e - 52)).toNat = 0 := by omega
    rw [m2, Nat.pow_zero, Nat.mul_one, rne_zero]
    have m3 : (e - 52 + 1074).toNat = (e + 1022).toNat := by omega
    rw [m3]
  refine ⟨fun h => ?_, fun h => ?_, fun h1 h2 => ?_, h0⟩
  · rw [h0]; unfold rungOf
    rw [if_neg hp, hl]
    rw [show max (e - 52 + ((52 : Nat) : Int) - 52) (-1074) = -1074 by omega, show (e - 52 - -1074).toNat = 0 by omega, Nat.pow_zero, Nat.mul_one, rne_tiny]
    · simp
    · have : 2 ^ 54 ≤ 2 ^ (-1074 - (e - 52)).toNat := Nat.pow_le_pow_right (by decide) (by omega)
      have : (2 : Nat) ^ 54 = 4 * p52 := by decide
      omega
  · rw [h0, mid (by omega)]
    have h3 : 2046 * p52 ≤ (e + 1022).toNat * p52 := Nat.mul_le_mul_right _ (by omega)
    generalize (e + 1022).toNat * p52 = a at *
    clear hl h0 mid
    generalize p52 = P at *
    omega
  · rw [h0, mid (by omega)]
    have h3 : (e + 1022).toNat * p52 + p52 = (e + 1023).toNat * p52 := by
      rw [← Nat.succ_mul]; congr 1; omega
    have h4 : (e + 1023).toNat * p52 ≤ 2046 * p52 := Nat.mul_le_mul_right _ (by omega)
    generalize (e + 1022).toNat * p52 = a at *
    generalize (e + 1023).toNat * p52 = b at *
    clear hl h0 mid
    generalize p52 = P at *
    omega

/-- A word of finite magnitude at least the least normal one: its field and its fraction. -/
theorem normal_parts {r : Nat} (h1 : p52 ≤ r) (h2 : r < infR) : 1 ≤ r / p52 ∧ r / p52 ≤ 2046 ∧ r % p52 < p52 ∧ r = r / p52 * p52 + r % p52 ∧ U r = (p52 + r % p52) * 2 ^ (r / p52 - 1) := by
  have hi : infR = 2047 * p52 := by decide
  have a : r / p52 < 2047 := by rw [Nat.div_lt_iff_lt_mul (by decide)]; omega
  refine ⟨(Nat.one_le_div_iff (by decide)).2 h1, by omega, Nat.mod_lt _ (by decide), ?_, ?_⟩
  · have := Nat.div_add_mod r p52; rw [Nat.mul_comm] at this; exact this.symm
  · unfold U; rw [if_neg (by omega)]

theorem U_parts {r a b : Nat} (h : p52 ≤ r) (h1 : r / p52 - 1 = a) (h2 : p52 + r % p52 = 2 ^ b) : U r = 2 ^ (b + a) := by
  unfold U; rw [if_neg (by omega), h1, h2, ← Nat.pow_add]

/-- A small one made normal: 2^52 times as great. -/
theorem mul_norm {x : Nat} (h0 : x % p63 ≠ 0) (h : x % p63 < p52) : double.mul x 4841369599423283200 = some (double.word (neg x) (rungOf (x % p63) (-1022))) ∧
    p52 ≤ rungOf (x % p63) (-1022) ∧ rungOf (x % p63) (-1022) < infR ∧ U (rungOf (x % p63) (-1022)) = x % p63 * 2 ^ 52 := by
  have hlt : x % p63 < infR := by unfold p52 at h; unfold infR; omega
  have hU : U (x % p63) = x % p63 := by unfold U; rw [if_pos h]
  obtain ⟨K, hK, hc⟩ : ∃ K, K = 1074 ∧ U (4841369599423283200 % p63) = 2 ^ (52 + K) := by
    obtain ⟨K, hK⟩ : ∃ K, K = 4841369599423283200 % p63 / p52 - 1 := ⟨_, rfl⟩
    have h1 : p52 + 4841369599423283200 % p63 % p52 = 2 ^ 52 := by decide
    exact ⟨K, by rw [hK]; decide, U_parts (by decide) hK.symm h1⟩
  have e := mul_fin hlt (show 4841369599423283200 % p63 < infR by decide)
  rw [hU, hc, show (-2148 : Int) = -1022 - ((52 + K : Nat) : Int) by omega, rungOf_scale, show (neg x ^^ neg 4841369599423283200) = neg x by cases neg x <;> decide] at e
  have l1 : p52 ≤ rungOf (x % p63) (-1022) := by
    have a := rungOf_mono (-1022) (show 1 ≤ x % p63 by omega)
    exact Nat.le_trans (by decide +kernel) a
  have l2 : rungOf (x % p63) (-1022) < infR := by
    have a := rungOf_mono (-1022) (Nat.le_of_lt h)
    exact Nat.lt_of_le_of_lt a (by decide +kernel)
  refine ⟨e, l1, l2, ?_⟩
  have := U_rungOf (m := x % p63) (p := -1022) (by unfold p52 at h; omega) (by decide) l2
  exact this

end Go.Proofs.Ytbepaoliboooaaa
