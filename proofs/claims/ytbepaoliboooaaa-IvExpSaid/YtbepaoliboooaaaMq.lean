/-
  Quotients of floats that are whole numbers times a power of two: where they come out even. No condition but those in the statements.
-/
import Derived.Test.YtbepaoliboooaaaMg
namespace Go.Proofs.Ytbepaoliboooaaa
open Ieee (double)

theorem log2_mul_le {m n : Nat} (hm : m ≠ 0) (hn : n ≠ 0) : (m * n).log2 ≤ m.log2 + n.log2 + 1 := by
  have a := lt_pow_log m
  have b := lt_pow_log n
  have h0 : m * n ≠ 0 := Nat.mul_ne_zero hm hn
  have c := pow_log_le h0
  have : m * n < 2 ^ (m.log2 + 1) * 2 ^ (n.log2 + 1) := Nat.mul_lt_mul_of_lt_of_le a (Nat.le_of_lt b) (Nat.two_pow_pos _)
  rw [← Nat.pow_add] at this
  have : 2 ^ (m * n).log2 < 2 ^ (m.log2 + 1 + (n.log2 + 1)) := by omega
  have := (Nat.pow_lt_pow_iff_right (a := 2) (by decide)).1 this
  omega

/-- A quotient that comes out even. -/
theorem is_quo {a b : Nat} {m n k l : Int} (ha : Is a (m * n) k) (hb : Is b n l) (hn : n ≠ 0) (h1 : -9007199254740992 ≤ m) (h2 : m ≤ 9007199254740992) (hk : -1074 ≤ k - l) (hf : Fits m (k - l)) :
    ∃ r, double.div a b = some r ∧ Is r m (k - l) := by
  obtain ⟨x, i, e1, hi, e2⟩ := read_fin ha.2.1
  obtain ⟨y, j, e3, hj, e4⟩ := read_fin hb.2.1
  obtain ⟨u1, s1⟩ := U_of_V ha
  obtain ⟨u2, s2⟩ := U_of_V hb
  have hk1 := ha.2.2.1
  have hl1 := hb.2.2.1
  rw [u1] at e2
  rw [u2] at e4
  have hn' : n.natAbs ≠ 0 := by omega
  have hy : y ≠ 0 := by
    intro h; rw [h, Nat.zero_mul] at e4
    have := Nat.two_pow_pos (l + 1074).toNat
    rcases Nat.mul_eq_zero.1 e4.symm with h | h <;> omega
  have hsign : m ≠ 0 → (neg a ^^ neg b) = decide (m < 0) := fun h0 => by
    have hmn : m * n ≠ 0 := by simp [h0, hn]
    rw [s1 hmn, s2 hn]
    by_cases g1 : m < 0 <;> by_cases g2 : n < 0
    · have : 0 < m * n := Int.mul_pos_of_neg_of_neg g1 g2
      simp [g1, g2, show ¬ m * n < 0 by omega]
    · have : m * n < 0 := Int.mul_neg_of_neg_of_pos g1 (by omega)
      simp [g1, g2, this]
    · have : m * n < 0 := Int.mul_neg_of_pos_of_neg (by omega) g2
      simp [g1, g2, this]
    · have : 0 < m * n := Int.mul_pos (by omega) (by omega)
      simp [g1, g2, show ¬ m * n < 0 by omega]
  have hrn := rn_small h1 h2
  unfold Ieee.Format.div
  rw [e1, e3]
  have hdig : double.fractionBits + 2 = 54 := by decide
  simp only [Ieee.Datum.quotient, hdig, if_neg hy, Nat.shiftLeft_eq, Option.map_some, Ieee.Format.write, nearest_eq]
  refine ⟨_, rfl, ?_⟩
  generalize hmore : 54 + y.log2 - x.log2 = more
  -- what is left to show: the digits are those of m
  have key : ∃ E : Nat, x * 2 ^ more = m.natAbs * 2 ^ E * y ∧ (m ≠ 0 → k - l - ((E + 1 : Nat) : Int) = i - j - more - 1) := by
    by_cases h0 : m = 0
    · subst h0
      refine ⟨0, ?_, fun h => absurd rfl h⟩
      have : x = 0 := by
        rw [Int.zero_mul] at e2
        simp only [Int.natAbs_zero, Nat.zero_mul] at e2
        rcases Nat.mul_eq_zero.1 e2 with h | h
        · exact h
        · have := Nat.two_pow_pos (i + 1074).toNat; omega
      subst this; simp
    · have hm' : m.natAbs ≠ 0 := by omega
      have heq : x * 2 ^ ((i + 1074).toNat + (l + 1074).toNat) = m.natAbs * y * 2 ^ ((j + 1074).toNat + (k + 1074).toNat) := by
        have := congrArg (· * 2 ^ (l + 1074).toNat) e2
        simp only [Int.natAbs_mul] at this
        rw [Nat.pow_add, ← Nat.mul_assoc, this, Nat.pow_add]
        rw [show m.natAbs * n.natAbs * 2 ^ (k + 1074).toNat * 2 ^ (l + 1074).toNat = m.natAbs * (n.natAbs * 2 ^ (l + 1074).toNat) * 2 ^ (k + 1074).toNat by simp only [Nat.mul_assoc, Nat.mul_left_comm, Nat.mul_comm], ← e4]
        simp only [Nat.mul_assoc]
      have hx : x ≠ 0 := by
        intro h; rw [h, Nat.zero_mul] at heq
        have := Nat.two_pow_pos ((j + 1074).toNat + (k + 1074).toNat)
        rcases Nat.mul_eq_zero.1 heq.symm with h | h
        · rcases Nat.mul_eq_zero.1 h with h | h <;> omega
        · omega
      have hlog := congrArg Nat.log2 heq
      rw [log2_scale hx, log2_scale (Nat.mul_ne_zero hm' hy)] at hlog
      have hm1 := log2_mul_le hm' hy
      have hm2 : m.natAbs.log2 ≤ 53 := by
        have a := pow_log_le hm'
        have : 2 ^ m.natAbs.log2 < 2 ^ 54 := by omega
        have := (Nat.pow_lt_pow_iff_right (a := 2) (by decide)).1 this
        omega
      obtain ⟨E, hE⟩ : ∃ E, E + ((i + 1074).toNat + (l + 1074).toNat) = (j + 1074).toNat + (k + 1074).toNat + more := ⟨(j + 1074).toNat + (k + 1074).toNat + more - ((i + 1074).toNat + (l + 1074).toNat), by omega⟩
      refine ⟨E, ?_, fun _ => by omega⟩
      apply Nat.eq_of_mul_eq_mul_right (Nat.two_pow_pos ((i + 1074).toNat + (l + 1074).toNat))
      rw [show x * 2 ^ more * 2 ^ ((i + 1074).toNat + (l + 1074).toNat) = x * 2 ^ ((i + 1074).toNat + (l + 1074).toNat) * 2 ^ more by ac_rfl, heq,
        Nat.mul_assoc, ← Nat.pow_add, ← hE, Nat.pow_add]
      ac_rfl
  obtain ⟨E, k1, k2⟩ := key
  have hypos : 0 < y := by omega
  rw [k1, Nat.mul_div_cancel _ hypos, Nat.mul_mod_left]
  rw [show 2 * (m.natAbs * 2 ^ E) + (0 != 0).toNat = m.natAbs * 2 ^ (E + 1) by rw [Nat.pow_succ]; simp [Nat.mul_left_comm, Nat.mul_comm]]
  have hr : rungOf (m.natAbs * 2 ^ (E + 1)) (i - j - more - 1) = rungOf m.natAbs (k - l) := by
    by_cases h0 : m = 0
    · subst h0; simp [rungOf_zero]
    · rw [← k2 h0, rungOf_scale]
  rw [hr]
  have := is_word (s := neg a ^^ neg b) hk hf hsign
  rw [hrn] at this
  exact this
end Go.Proofs.Ytbepaoliboooaaa
