/-
  Rounded quotients: by a divisor twice as great half as great, exactly, where nothing runs out. No condition but those in the statements.
-/
import Derived.Test.YtclhgnhbmlkomaaGm
namespace Go.Proofs.Ytclhgnhbmlkomaa
open Ieee (double)

theorem low_next {c m : Nat} (h : 53 + c ≤ m.log2) : low c m = low (c + 1) m + p52 := by
  unfold low
  rw [show m.log2 - (52 + c) + c = m.log2 - (52 + (c + 1)) + (c + 1) by omega, show m.log2 - (52 + c) = m.log2 - (52 + (c + 1)) + 1 by omega, Nat.add_mul, Nat.one_mul]
  omega
theorem low_small {c m : Nat} (h : m.log2 ≤ 52 + c) : low c m ≤ 2 * p52 := by
  unfold low
  rw [show m.log2 - (52 + c) = 0 by omega, Nat.zero_mul, Nat.zero_add, Nat.zero_add]
  have h1 : m < 2 ^ (c + 53) := Nat.lt_of_lt_of_le (lt_pow_log m) (Nat.pow_le_pow_right (by decide) (by omega))
  exact rne_le_pow h1
/-- By twice as much: a binade less. -/
theorem rung_half {c m : Nat} (h1 : 2 * p52 < rungOf m (-1074 - (c : Int))) (h2 : rungOf m (-1074 - (c : Int)) < infR) : rungOf m (-1074 - ((c + 1 : Nat) : Int)) + p52 = rungOf m (-1074 - (c : Int)) := by
  have hm : m ≠ 0 := by
    rintro rfl
    have : rungOf 0 (-1074 - (c : Int)) = 0 := by unfold rungOf; rw [if_pos rfl]
    rw [this] at h1; omega
  rw [rungOf_low c hm] at h1 h2 ⊢
  rw [rungOf_low (c + 1) hm]
  have hl : 53 + c ≤ m.log2 := by
    rcases Nat.lt_or_ge m.log2 (53 + c) with g | g
    · have := low_small (c := c) (m := m) (by omega)
      omega
    · exact g
  have := low_next hl
  omega
theorem quo_half {x y y2 : Nat} (hx : x % p63 < infR) (hy : y % p63 < infR) (hy2 : y2 % p63 < infR) (h0 : y % p63 ≠ 0) (h3 : y2 % p63 ≠ 0) (hu : U (y2 % p63) = U (y % p63) * 2) (hs : neg y2 = neg y) :
    ∃ r, r ≤ infR ∧ double.div x y = some (double.word (neg x ^^ neg y) r) ∧ (2 * p52 < r → r < infR → ∃ r2, r2 ≤ infR ∧ double.div x y2 = some (double.word (neg x ^^ neg y) r2) ∧ r2 + p52 = r) := by
  obtain ⟨L1, g1⟩ := quo_big hx hy h0
  obtain ⟨L2, g2⟩ := quo_big hx hy2 h3
  obtain ⟨L, hL⟩ : ∃ L, L = L1 + L2 + 1073 := ⟨_, rfl⟩
  have e1 := g1 L (by omega)
  have e2 := g2 (L + 1) (by omega)
  rw [hu, Nat.pow_succ, ← Nat.mul_assoc, st_scale _ _ (by decide), hs] at e2
  refine ⟨_, rungOf_le_inf _ _, e1, fun k1 k2 => ⟨_, rungOf_le_inf _ _, e2, ?_⟩⟩
  have c1 : (-1 : Int) - (L : Int) = -1074 - ((L - 1073 : Nat) : Int) := by omega
  have c2 : (-1 : Int) - ((L + 1 : Nat) : Int) = -1074 - ((L - 1073 + 1 : Nat) : Int) := by omega
  rw [c1] at k1 k2 ⊢
  rw [c2]
  exact rung_half k1 k2
end Go.Proofs.Ytclhgnhbmlkomaa
