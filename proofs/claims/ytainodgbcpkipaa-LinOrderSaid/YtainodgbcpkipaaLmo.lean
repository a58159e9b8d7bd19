/-
  Rows of one number each, in any order: how they are parted, solved.
-/
import Derived.Test.YtainodgbcpkipaaLmt
namespace Go.Proofs.Ytainodgbcpkipaa
open Ieee (double)

def four64 : Nat := 4616189618054758400
/-- One number a row. -/
def oneF (t : Nat → Nat) (i j : Nat) : Nat := if j = t i then four64 else 0
theorem quo_04 : cop .quo 0 four64 = 0 := by decide +kernel
theorem mul_00 : cop .mul 0 0 = 0 := by decide +kernel
theorem sub_00 : cop .sub 0 0 = 0 := by decide +kernel
theorem sub_40 : cop .sub four64 0 = four64 := by decide +kernel
theorem oneF_at {t : Nat → Nat} {i j : Nat} (h : j = t i) : oneF t i j = four64 := if_pos h
theorem oneF_ne {t : Nat → Nat} {i j : Nat} (h : j ≠ t i) : oneF t i j = 0 := if_neg h
theorem oneF_or (t : Nat → Nat) (i j : Nat) : oneF t i j = four64 ∨ oneF t i j = 0 := by unfold oneF; split <;> simp
theorem oneF_bd (t : Nat → Nat) (i j : Nat) : oneF t i j % p63 ≤ infR := by rcases oneF_or t i j with h | h <;> rw [h] <;> decide
theorem oneF_sub (t : Nat → Nat) (i j : Nat) : cop .sub (oneF t i j) 0 = oneF t i j := by
  rcases oneF_or t i j with h | h
  · rw [h]; exact sub_40
  · rw [h]; exact sub_00
/-- A step on rows of one number each. -/
theorem one_step {t s : Nat → Nat} {n k : Nat} (hk : k < n) (hinj : ∀ i j, i < n → j < n → t (s i) = t (s j) → i = j) (hp : ∃ p, k ≤ p ∧ p < n ∧ t (s p) = k) :
    ∃ p, p < n ∧ pivF (oneF fun i => t (s i)) k (n - 1 - k) = p ∧ k ≤ p ∧ t (s p) = k ∧ dvB (oneF (fun i => t (s i)) p k) = true ∧ ∀ i j, i < n → j < n → clF (swp (oneF fun i => t (s i)) p k) k n n i j = oneF (fun i => t (swp s p k i)) i j := by
  obtain ⟨p, hp1, hp2, hp3⟩ := hp
  have hle := pivF_le (oneF fun i => t (s i)) k (n - 1 - k)
  have hmax := pivF_max (g := oneF fun i => t (s i)) (k := k) (m := n - 1 - k) (fun i _ _ => oneF_bd _ _ _) p hp1 (by omega)
  have hpv : pivF (oneF fun i => t (s i)) k (n - 1 - k) = p := by
    generalize pivF (oneF fun i => t (s i)) k (n - 1 - k) = v at *
    rw [oneF_at (t := fun i => t (s i)) (i := p) hp3.symm] at hmax
    by_cases e : k = t (s v)
    · exact hinj v p (by omega) hp2 (by omega)
    · rw [oneF_ne (t := fun i => t (s i)) e] at hmax
      exact absurd hmax (by decide)
  refine ⟨p, hp2, hpv, hp1, hp3, by rw [oneF_at (t := fun i => t (s i)) hp3.symm]; decide +kernel, fun i j hi hj => ?_⟩
  have hsw : ∀ i j, swp (oneF fun i => t (s i)) p k i j = oneF (fun i => t (swp s p k i)) i j := fun i j => by
    rw [swp_sg]
    unfold oneF
    simp only [swp_sg]
  have hkk : t (swp s p k k) = k := by rw [swp_at2]; exact hp3
  unfold clF
  by_cases h : k < i ∧ i < n
  · rw [if_pos h]
    unfold clR
    have hik : t (swp s p k i) ≠ k := fun e => by
      rw [swp_sg] at e
      have := hinj _ p (sg_lt hp2 hk hi) hp2 (e.trans hp3.symm)
      unfold sg at this
      rw [if_neg (by omega)] at this
      split at this <;> omega
    have z : swp (oneF fun i => t (s i)) p k i k = 0 := by rw [hsw, oneF_ne (t := fun i => t (swp s p k i)) (Ne.symm hik)]
    have f4 : swp (oneF fun i => t (s i)) p k k k = four64 := by rw [hsw, oneF_at (t := fun i => t (swp s p k i)) hkk.symm]
    rw [z, f4, quo_04]
    by_cases e : j = k
    · rw [if_pos e, e, oneF_ne (t := fun i => t (swp s p k i)) (Ne.symm hik)]
    · rw [if_neg e]
      by_cases e2 : k < j ∧ j < n
      · rw [if_pos e2]
        have y0 : swp (oneF fun i => t (s i)) p k k j = 0 := by rw [hsw, oneF_ne (t := fun i => t (swp s p k i)) (by rw [hkk]; exact e)]
        rw [y0, mul_00, hsw]
        exact oneF_sub _ _ _
      · rw [if_neg e2, hsw]
  · rw [if_neg h, hsw]
theorem clR_eq {f g : Nat → Nat → Nat} {n k i : Nat} (hk : k < n) (h : ∀ j, j < n → f i j = g i j ∧ f k j = g k j) {j : Nat} (hj : j < n) : clR f k i n j = clR g k i n j := by
  unfold clR
  rw [(h k hk).1, (h k hk).2, (h j hj).1, (h j hj).2]
theorem clF_eq {f g : Nat → Nat → Nat} {n k : Nat} (hk : k < n) (h : ∀ i j, i < n → j < n → f i j = g i j) {i j : Nat} (hi : i < n) (hj : j < n) : clF f k n n i j = clF g k n n i j := by
  unfold clF
  by_cases e : k < i ∧ i < n
  · rw [if_pos e, if_pos e]; exact clR_eq hk (fun j hj => ⟨h i j hi hj, h k j hk hj⟩) hj
  · rw [if_neg e, if_neg e]; exact h i j hi hj
theorem pivF_eq {f g : Nat → Nat → Nat} {n k : Nat} (hk : k < n) (h : ∀ i j, i < n → j < n → f i j = g i j) : ∀ m, k + m < n → pivF f k m = pivF g k m
  | 0, _ => rfl
  | m + 1, hm => by
    have ih := pivF_eq hk h m (by omega)
    have hp := pivF_le g k m
    rw [pivF, pivF, ih, h _ _ (by omega) hk, h _ _ (by omega) hk]
/-- As many as there are, none twice: each comes. -/
theorem surj_of : ∀ {n : Nat} (s : Nat → Nat), (∀ i, i < n → s i < n) → (∀ i j, i < n → j < n → s i = s j → i = j) → ∀ m, m < n → ∃ i, i < n ∧ s i = m
  | 0, _, _, _, m, hm => by omega
  | n + 1, s, h1, h2, m, hm => by
    have hv := h1 n (by omega)
    have hne : ∀ i, i < n → s i ≠ s n := fun i hi e => by have := h2 i n (by omega) (by omega) e; omega
    have ih := surj_of (n := n) (fun i => if s i = n then s n else s i) (fun i hi => by
      have a := h1 i (by omega)
      have b := hne i hi
      show (if s i = n then s n else s i) < n
      by_cases e : s i = n
      · rw [if_pos e]; omega
      · rw [if_neg e]; omega) (fun i j hi hj e => by
      have a := hne i hi
      have b := hne j hj
      by_cases e1 : s i = n
      · by_cases e2 : s j = n
        · exact h2 i j (by omega) (by omega) (e1.trans e2.symm)
        · rw [if_pos e1, if_neg e2] at e; exact absurd e.symm b
      · by_cases e2 : s j = n
        · rw [if_neg e1, if_pos e2] at e; exact absurd e a
        · rw [if_neg e1, if_neg e2] at e; exact h2 i j (by omega) (by omega) e)
    by_cases hmv : m = s n
    · exact ⟨n, by omega, hmv.symm⟩
    · by_cases hmn : m = n
      · obtain ⟨i, hi, e⟩ := ih (s n) (by omega)
        by_cases e1 : s i = n
        · exact ⟨i, by omega, e1.trans hmn.symm⟩
        · rw [if_neg e1] at e; exact absurd e (hne i hi)
      · obtain ⟨i, hi, e⟩ := ih m (by omega)
        by_cases e1 : s i = n
        · rw [if_pos e1] at e; exact absurd e.symm hmv
        · rw [if_neg e1] at e; exact ⟨i, by omega, e⟩
/-- How rows of one number each are parted: each goes where its number is. -/
theorem partF_one {f : Nat → Nat → Nat} {t : Nat → Nat} {n : Nat} (hf : ∀ i j, i < n → j < n → f i j = oneF t i j) (ht : ∀ i, i < n → t i < n) (hti : ∀ i j, i < n → j < n → t i = t j → i = j) :
    ∃ g q, partF f n n = some (g, q) ∧ (∀ i j, i < n → j < n → g i j = oneF (fun i => i) i j) ∧ (∀ i, i < n → q i < n) ∧ ∀ i, i < n → t (q i) = i := by
  have surj : ∀ (s : Nat → Nat), (∀ i, i < n → s i < n) → (∀ i j, i < n → j < n → s i = s j → i = j) → ∀ m, m < n → ∃ i, i < n ∧ s i = m := surj_of
  have key : ∀ k, k ≤ n → ∃ g q, partF f n k = some (g, q) ∧ (∀ i j, i < n → j < n → g i j = oneF (fun i => t (q i)) i j) ∧ (∀ i, i < n → q i < n) ∧ (∀ i j, i < n → j < n → q i = q j → i = j) ∧ ∀ i, i < k → t (q i) = i := by
    intro k
    induction k with
    | zero => exact fun _ => ⟨f, fun i => i, rfl, hf, fun i hi => hi, fun i j _ _ e => e, fun i hi => by omega⟩
    | succ k ih =>
      intro hk
      obtain ⟨g, q, h1, h2, h3, h4, h5⟩ := ih (by omega)
      have hkn : k < n := by omega
      have hinj : ∀ i j, i < n → j < n → t (q i) = t (q j) → i = j := fun i j hi hj e => h4 i j hi hj (hti _ _ (h3 i hi) (h3 j hj) e)
      obtain ⟨p, hp1, hp2⟩ := surj (fun i => t (q i)) (fun i hi => ht _ (h3 i hi)) hinj k hkn
      have hpk : k ≤ p := by
        rcases Nat.lt_or_ge p k with e | e
        · have := h5 p e; omega
        · exact e
      obtain ⟨p', g1, g2, g3, g4, g5, g6⟩ := one_step (t := t) (s := q) hkn hinj ⟨p, hpk, hp1, hp2⟩
      have hpiv : pivF g k (n - 1 - k) = p' := by rw [pivF_eq hkn h2 _ (by omega)]; exact g2
      have hgp : g p' k = oneF (fun i => t (q i)) p' k := h2 p' k g1 hkn
      refine ⟨clF (swp g p' k) k n n, swp q p' k, ?_, fun i j hi hj => ?_, fun i hi => ?_, fun i j hi hj e => ?_, fun i hi => ?_⟩
      · rw [partF, h1]
        simp only [hpiv]
        rw [hgp, if_pos g5]
      · rw [clF_eq hkn (g := swp (oneF fun i => t (q i)) p' k) (fun i j hi hj => by rw [swp_sg, swp_sg]; exact h2 _ _ (sg_lt g1 hkn hi) hj) hi hj]
        exact g6 i j hi hj
      · rw [swp_sg]; exact h3 _ (sg_lt g1 hkn hi)
      · rw [swp_sg, swp_sg] at e
        exact sg_inj (h4 _ _ (sg_lt g1 hkn hi) (sg_lt g1 hkn hj) e)
      · by_cases e : i = k
        · subst e; rw [swp_at2]; exact g4
        · rw [swp_ne _ (by omega) e]; exact h5 i (by omega)
  obtain ⟨g, q, h1, h2, h3, -, h5⟩ := key n (Nat.le_refl _)
  refine ⟨g, q, h1, fun i j hi hj => ?_, h3, h5⟩
  rw [h2 i j hi hj]
  unfold oneF
  simp only [h5 i hi]
end Go.Proofs.Ytainodgbcpkipaa
