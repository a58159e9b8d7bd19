/-
  Rows of which each is greatest by itself: parted as they stand, in whatever order. Plain functions.
-/
import Derived.Test.YtainodgbcpkipaaLsa
import Derived.Test.YtainodgbcpkipaaHi
namespace Go.Proofs.Ytainodgbcpkipaa
open Ieee (double)

/-- The greatest is found, wherever it is. -/
theorem pivF_is {f : Nat → Nat → Nat} {k p : Nat} (hp : k ≤ p) : ∀ {m : Nat}, (∀ i, k ≤ i → i ≤ k + m → i ≠ p → ltB (ab (f i k)) (ab (f p k)) = true ∧ ltB (ab (f p k)) (ab (f i k)) = false) → p ≤ k + m → pivF f k m = p
  | 0, _, h => by
    have : p = k := by omega
    rw [this]; rfl
  | m + 1, h, hm => by
    rw [pivF]
    by_cases e : p = k + 1 + m
    · have hl := pivF_le f k m
      rw [if_pos (by rw [← e]; exact (h _ hl.1 (by omega) (by omega)).1), e]
    · rw [pivF_is hp (fun i h1 h2 => h i h1 (by omega)) (show p ≤ k + m by omega), if_neg]
      rw [(h (k + 1 + m) (by omega) (by omega) (by omega)).2]
      decide
/-- Cleared by the rows as they stand. -/
def elF (f : Nat → Nat → Nat) (n : Nat) : Nat → Nat → Nat → Nat
  | 0 => f
  | k + 1 => clF (elF f n k) k n n
/-- What stands in its own column is the greatest, in each step. -/
def Best (f : Nat → Nat → Nat) (n : Nat) : Prop := ∀ k, k < n → dvB (elF f n k k k) = true ∧ ∀ r, k < r → r < n → ltB (ab (elF f n k r k)) (ab (elF f n k k k)) = true ∧ ltB (ab (elF f n k k k)) (ab (elF f n k r k)) = false
theorem part_perm {f : Nat → Nat → Nat} {n : Nat} (hb : Best f n) {s : Nat → Nat} (hs : ∀ i, i < n → s i < n) (hs2 : ∀ i, n ≤ i → s i = i) (hinj : ∀ i j, s i = s j → i = j) (hsur : ∀ r, r < n → ∃ i, i < n ∧ s i = r) :
    ∀ k, k ≤ n → ∃ q, partF (fun i => f (s i)) n k = some (fun i => elF f n k (s (q i)), q) ∧ (∀ i, i < n → q i < n) ∧ (∀ i, n ≤ i → q i = i) ∧ (∀ i j, q i = q j → i = j) ∧ (∀ r, r < n → ∃ i, i < n ∧ s (q i) = r) ∧ ∀ i, i < k → s (q i) = i
  | 0, _ => ⟨fun i => i, rfl, fun _ h => h, fun _ _ => rfl, fun _ _ h => h, hsur, fun i h => by omega⟩
  | k + 1, hk => by
    obtain ⟨q, e, h1, h2, h3, h4, h5⟩ := part_perm hb hs hs2 hinj hsur k (by omega)
    obtain ⟨p, hpn, hp⟩ := h4 k (by omega)
    have hkp : k ≤ p := by
      rcases Nat.lt_or_ge p k with g | g
      · have := h5 p g; omega
      · exact g
    have hbk := hb k (by omega)
    -- what stands from row k on
    have hgt : ∀ i, k ≤ i → i < n → i ≠ p → k < s (q i) ∧ s (q i) < n := fun i hi hin hip => by
      have a := hs _ (h1 i hin)
      have b : s (q i) ≠ k := fun g => hip (h3 _ _ (hinj _ _ (g.trans hp.symm)))
      have c : ¬ s (q i) < k := fun g => by
        have := h5 _ g
        have := h3 _ _ (hinj _ _ this)
        omega
      omega
    have hpiv : pivF (fun i => elF f n k (s (q i))) k (n - 1 - k) = p := pivF_is hkp (fun i h1 h2 h3 => by
      have := hgt i h1 (by omega) h3
      simp only [hp]
      exact hbk.2 _ this.1 this.2) (by omega)
    refine ⟨swp q p k, ?_, fun i hi => ?_, fun i hi => ?_, fun i j hij => ?_, fun r hr => ?_, fun i hi => ?_⟩
    · rw [partF, e]
      simp only [hpiv, hp, hbk.1, if_true, Option.some.injEq, Prod.mk.injEq, and_true]
      funext a
      have hsw : ∀ b, swp (fun i => elF f n k (s (q i))) p k b = elF f n k (s (swp q p k b)) := fun b => by rw [swp_sg, swp_sg]
      have hk2 : s (swp q p k k) = k := by rw [swp_at2]; exact hp
      rw [elF]
      unfold clF
      by_cases ha : k < a ∧ a < n
      · have hne : s (swp q p k a) ≠ k := fun g => by
          have := hinj _ _ (g.trans hk2.symm)
          rw [swp_sg, swp_sg] at this
          have := sg_inj (h3 _ _ this)
          omega
        have hin : s (swp q p k a) < n := by rw [swp_sg]; exact hs _ (h1 _ (sg_lt hpn (by omega) ha.2))
        have hgt2 : k < s (swp q p k a) := by
          rcases Nat.lt_or_ge k (s (swp q p k a)) with g | g
          · exact g
          · have hlt : s (swp q p k a) < k := by omega
            have e1 := h5 _ hlt
            rw [swp_sg] at e1
            have e2 := h3 _ _ (hinj _ _ e1)
            rw [swp_sg, e2] at hlt
            unfold sg at hlt
            split at hlt
            · omega
            · split at hlt <;> omega
        rw [if_pos ha, if_pos ⟨hgt2, hin⟩]
        unfold clR
        funext j
        rw [hsw, hsw, hk2]
      · rw [if_neg ha, hsw, if_neg]
        rintro ⟨g1, g2⟩
        apply ha
        rcases Nat.lt_or_ge a n with g | g
        · refine ⟨?_, g⟩
          rcases Nat.lt_or_ge k a with u | u
          · exact u
          · by_cases ek : a = k
            · rw [ek, hk2] at g1; omega
            · rw [swp_ne q (by omega) ek, h5 a (by omega)] at g1; omega
        · rw [swp_ne q (by omega) (by omega), h2 a g, hs2 a g] at g2; omega
    · rw [swp_sg]; exact h1 _ (sg_lt hpn (by omega) hi)
    · rw [swp_ne q (by omega) (by omega)]; exact h2 i hi
    · rw [swp_sg, swp_sg] at hij
      exact sg_inj (h3 _ _ hij)
    · obtain ⟨i, hi, hir⟩ := h4 r hr
      by_cases e1 : i = k
      · exact ⟨p, hpn, by rw [swp_at1, ← e1]; exact hir⟩
      · by_cases e2 : i = p
        · exact ⟨k, by omega, by rw [swp_at2, ← e2]; exact hir⟩
        · exact ⟨i, hi, by rw [swp_ne q e2 e1]; exact hir⟩
    · by_cases e1 : i = k
      · rw [e1, swp_at2]; exact hp
      · rw [swp_ne q (by omega) e1]; exact h5 i (by omega)
theorem part_all {f : Nat → Nat → Nat} {n : Nat} (hb : Best f n) {s : Nat → Nat} (hs : ∀ i, i < n → s i < n) (hs2 : ∀ i, n ≤ i → s i = i) (hss : ∀ i, s (s i) = i) :
    ∃ q, partF (fun i => f (s i)) n n = some (elF f n n, q) ∧ ∀ i, q i = s i := by
  have hinj : ∀ i j, s i = s j → i = j := fun i j h => by rw [← hss i, h, hss]
  obtain ⟨q, e, h1, h2, h3, h4, h5⟩ := part_perm hb hs hs2 hinj (fun r hr => ⟨s r, hs r hr, hss r⟩) n (Nat.le_refl _)
  have hall : ∀ i, s (q i) = i := fun i => by
    rcases Nat.lt_or_ge i n with g | g
    · exact h5 i g
    · rw [h2 i g, hs2 i g]
  refine ⟨q, ?_, fun i => by rw [← hall i, hss, hall]⟩
  rw [e]
  simp only [hall]
end Go.Proofs.Ytainodgbcpkipaa
