/-
  Rows whose own number is by far the greatest: how great what parts them, what solves them, is. Plain functions.
-/
import Derived.Test.YtainodgbcpkipaaLsb
namespace Go.Proofs.Ytainodgbcpkipaa
open Ieee (double)

def mK (k : Nat) : Int := [4096, 5120, 6400, 8000, 10000, 12500].getD k 0
def dK (k : Nat) : Int := [36864, 35840, 34560, 32960, 30960, 28460].getD k 0
def tK (k : Nat) : Int := [45056, 46080, 47360, 48960, 50960, 53460].getD k 0
theorem numK (k : Nat) (hk : k ≤ 4) : ∃ q : Int, 256 * mK k ≤ 1024 * q ∧ 0 ≤ q ∧ q ≤ 2500 ∧ mK (k + 1) = mK k + q ∧ dK (k + 1) = dK k - q ∧ tK (k + 1) = tK k + q ∧ 0 ≤ mK k ∧ mK k ≤ 10000 ∧ 30000 ≤ dK k ∧ dK k ≤ 40000 ∧ 0 ≤ tK k ∧ tK k ≤ 60000 ∧ (k ≤ 3 → 1024 * mK k ≤ 256 * dK k) ∧ mK k < dK k := by
  have h : k = 0 ∨ k = 1 ∨ k = 2 ∨ k = 3 ∨ k = 4 := by omega
  rcases h with rfl | rfl | rfl | rfl | rfl
  · exact ⟨1024, by decide⟩
  · exact ⟨1280, by decide⟩
  · exact ⟨1600, by decide⟩
  · exact ⟨2000, by decide⟩
  · exact ⟨2500, by decide⟩
theorem topK (n : Nat) (hn : n ≤ 5) : mK n ≤ 12500 ∧ 28460 ≤ dK n ∧ tK n ≤ 53460 ∧ 0 ≤ mK n := by
  have h : n = 0 ∨ n = 1 ∨ n = 2 ∨ n = 3 ∨ n = 4 ∨ n = 5 := by omega
  rcases h with rfl | rfl | rfl | rfl | rfl | rfl <;> decide
/-- How great the numbers are, behind k steps. -/
structure GreatK (g : Nat → Nat → Nat) (n k : Nat) : Prop where
  d : ∀ i, i < n → Btw (dK k) (tK k) (g i i)
  u : ∀ i j, i < j → j < n → Btw (-mK k) (mK k) (g i j)
  l : ∀ i j, j < i → i < n → k ≤ j → Btw (-mK k) (mK k) (g i j)
  m : ∀ i j, j < i → i < n → j < k → Btw (-256) 256 (g i j)
theorem great_all {f : Nat → Nat → Nat} {n : Nat} (hn : n ≤ 5) (h0 : GreatK f n 0) : ∀ k, k ≤ n → GreatK (elF f n k) n k
  | 0, _ => h0
  | k + 1, hk => by
    have g := great_all hn h0 k (by omega)
    obtain ⟨q, q1, q2, q3, q4, q5, q6, q7, q8, q9, q10, q11, q12, q13, q14⟩ := numK k (by omega)
    have hdk := g.d k (by omega)
    -- by how much, and what is taken away
    have hl : ∀ i, k < i → i < n → Btw (-256) 256 (cop .quo (elF f n k i k) (elF f n k k k)) := fun i h1 h2 =>
      btw_quo (g.l i k h1 h2 (Nat.le_refl _)) hdk (by omega) (q13 (by omega)) (by omega) (by omega)
    have ht : ∀ i j, k < i → i < n → k < j → j < n → Btw (-q) q (cop .mul (cop .quo (elF f n k i k) (elF f n k k k)) (elF f n k k j)) := fun i j h1 h2 h3 h4 =>
      btw_mul (hl i h1 h2) (g.u k j h3 h4) q1 (by omega) (by omega) q7
    have row : ∀ i j, elF f n (k + 1) i j = if k < i ∧ i < n then (if j = k then cop .quo (elF f n k i k) (elF f n k k k) else if k < j ∧ j < n then cop .sub (elF f n k i j) (cop .mul (cop .quo (elF f n k i k) (elF f n k k k)) (elF f n k k j)) else elF f n k i j) else elF f n k i j := fun i j => by
      rw [elF]
      unfold clF clR
      split <;> rfl
    refine ⟨fun i hi => ?_, fun i j hij hj => ?_, fun i j hij hi hkj => ?_, fun i j hij hi hkj => ?_⟩
    · rw [row]
      by_cases hc : k < i ∧ i < n
      · rw [if_pos hc, if_neg (by omega), if_pos hc]
        exact btw_le (btw_sub (g.d i hi) (ht i i hc.1 hi hc.1 hi) (by omega) (by omega) (by omega) (by omega)) (by omega) (by omega)
      · rw [if_neg hc]
        exact btw_le (g.d i hi) (by omega) (by omega)
    · rw [row]
      by_cases hc : k < i ∧ i < n
      · rw [if_pos hc, if_neg (by omega), if_pos (by omega)]
        exact btw_le (btw_sub (g.u i j hij hj) (ht i j hc.1 hc.2 (by omega) hj) (by omega) (by omega) (by omega) (by omega)) (by omega) (by omega)
      · rw [if_neg hc]
        exact btw_le (g.u i j hij hj) (by omega) (by omega)
    · rw [row, if_pos ⟨by omega, hi⟩, if_neg (by omega), if_pos (by omega)]
      exact btw_le (btw_sub (g.l i j hij hi (by omega)) (ht i j (by omega) hi (by omega) (by omega)) (by omega) (by omega) (by omega) (by omega)) (by omega) (by omega)
    · rw [row]
      by_cases hc : k < i ∧ i < n
      · rw [if_pos hc]
        by_cases hjk : j = k
        · rw [if_pos hjk]; exact hl i hc.1 hi
        · rw [if_neg hjk, if_neg (by omega)]
          exact g.m i j hij hi (by omega)
      · rw [if_neg hc]
        exact g.m i j hij hi (by omega)
theorem great_best {f : Nat → Nat → Nat} {n : Nat} (hn : n ≤ 5) (h0 : GreatK f n 0) : Best f n := fun k hk => by
  have g := great_all hn h0 k (by omega)
  obtain ⟨q, -, -, -, -, -, -, q7, -, q9, -, -, -, -, q14⟩ := numK k (by omega)
  exact ⟨dvB_pos (g.d k hk) (by omega), fun r h1 h2 => ab_less (g.l r k h1 h2 (Nat.le_refl _)) (g.d k hk) q14 q7⟩
theorem subs_btw {r x : Nat → Nat} {b : Nat} {A P : Int} (hb : Btw (-A) A b) (hA : 0 ≤ A) (hP : 0 ≤ P) : ∀ m : Nat, (∀ j, j < m → Btw (-P) P (cop .mul (r j) (x j))) → m ≤ 8 → A + 8 * P ≤ 9007199254740992 → Btw (-(A + m * P)) (A + m * P) (subsF r x b m)
  | 0, _, _, _ => by simpa [subsF] using hb
  | m + 1, h, hm, hs => by
    have ih := subs_btw (r := r) (x := x) hb hA hP m (fun j hj => h j (by omega)) (by omega) hs
    have h1 := h m (by omega)
    have e : ((m + 1 : Nat) : Int) * P = (m : Int) * P + P := by rw [Int.natCast_add, Int.add_mul]; simp
    have e2 : (m : Int) * P ≤ 7 * P := Int.mul_le_mul_of_nonneg_right (by omega) hP
    have e3 : 0 ≤ (m : Int) * P := Int.mul_nonneg (by omega) hP
    rw [subsF, e]
    exact btw_le (btw_sub ih h1 (by omega) (by omega) (by omega) (by omega)) (by omega) (by omega)
def yK (i : Nat) : Int := [13312, 26624, 53248, 106496, 212992].getD i 0
theorem numY (i : Nat) (hi : i ≤ 4) : 0 ≤ yK i ∧ yK i ≤ 212992 ∧ ∃ p, 0 ≤ p ∧ p ≤ 100000 ∧ 13312 + (i : Int) * p ≤ yK i ∧ ∀ j, j < i → 256 * yK j ≤ 1024 * p := by
  have h : i = 0 ∨ i = 1 ∨ i = 2 ∨ i = 3 ∨ i = 4 := by omega
  rcases h with rfl | rfl | rfl | rfl | rfl
  · exact ⟨by decide, by decide, 0, by decide, by decide, by decide, fun j hj => by omega⟩
  · exact ⟨by decide, by decide, 3328, by decide, by decide, by decide, by decide⟩
  · exact ⟨by decide, by decide, 6656, by decide, by decide, by decide, by decide⟩
  · exact ⟨by decide, by decide, 13312, by decide, by decide, by decide, by decide⟩
  · exact ⟨by decide, by decide, 26624, by decide, by decide, by decide, by decide⟩
/-- Down the rows. -/
theorem fw_btw {g : Nat → Nat → Nat} {b : Nat → Nat} {n : Nat} (hn : n ≤ 5) (hl : ∀ i j, j < i → i < n → Btw (-256) 256 (g i j)) (hb : ∀ i, i < n → Btw (-13312) 13312 (b i)) (i : Nat) : i < n → Btw (-yK i) (yK i) (fwF g b i) := by
  induction i using Nat.strongRecOn with
  | _ i ih =>
    intro hi
    obtain ⟨y1, y2, p, p1, p2, p3, p4⟩ := numY i (by omega)
    rw [fwF_eq]
    refine btw_le (subs_btw (P := p) (hb i hi) (by omega) p1 i (fun j hj => ?_) (by omega) (by omega)) (by omega) (by omega)
    exact btw_mul (hl i j hj hi) (ih j hj (by omega)) (p4 j hj) (by omega) (by omega) (numY j (by omega)).1
def xK (d : Nat) : Int := [212992, 11501568, 621084672, 33538572288, 1811082903552].getD d 0
theorem numX (d : Nat) (hd : d ≤ 4) : 0 ≤ xK d ∧ xK d ≤ 1811082903552 ∧ ∃ p, 0 ≤ p ∧ p ≤ 1000000000000 ∧ 212992 + (d : Int) * p ≤ xK d ∧ ∀ j, j < d → 12500 * xK j ≤ 1024 * p := by
  have h : d = 0 ∨ d = 1 ∨ d = 2 ∨ d = 3 ∨ d = 4 := by omega
  rcases h with rfl | rfl | rfl | rfl | rfl
  · exact ⟨by decide, by decide, 0, by decide, by decide, by decide, fun j hj => by omega⟩
  · exact ⟨by decide, by decide, 13 * 212992, by decide, by decide, by decide, by decide⟩
  · exact ⟨by decide, by decide, 13 * 11501568, by decide, by decide, by decide, by decide⟩
  · exact ⟨by decide, by decide, 13 * 621084672, by decide, by decide, by decide, by decide⟩
  · exact ⟨by decide, by decide, 13 * 33538572288, by decide, by decide, by decide, by decide⟩
/-- Up the rows. -/
theorem bk_btw {g : Nat → Nat → Nat} {y : Nat → Nat} {n : Nat} (hn : n ≤ 5) (hu : ∀ i j, i < j → j < n → Btw (-12500) 12500 (g i j)) (hd : ∀ i, i < n → Btw 28460 53460 (g i i)) (hy : ∀ i, i < n → Btw (-212992) 212992 (y i)) (d : Nat) : d < n → Btw (-xK d) (xK d) (bkF g n y (n - 1 - d)) := by
  induction d using Nat.strongRecOn with
  | _ d ih =>
    intro hdn
    obtain ⟨y1, y2, p, p1, p2, p3, p4⟩ := numX d (by omega)
    rw [bkF_eq g n y (show n - 1 - d < n by omega), show n - 1 - (n - 1 - d) = d by omega]
    have h1 := subs_btw (r := fun j => g (n - 1 - d) (n - 1 - d + 1 + j)) (x := fun j => bkF g n y (n - 1 - d + 1 + j)) (P := p) (hy (n - 1 - d) (by omega)) (by omega) p1 d (fun j hj => by
      have := ih (d - 1 - j) (by omega) (by omega)
      rw [show n - 1 - (d - 1 - j) = n - 1 - d + 1 + j by omega] at this
      exact btw_mul (hu _ _ (by omega) (by omega)) this (p4 _ (by omega)) (by omega) (by omega) (numX (d - 1 - j) (by omega)).1) (by omega) (by omega)
    exact btw_quo (btw_le h1 (show -xK d ≤ _ by omega) (show _ ≤ xK d by omega)) (hd _ (by omega)) (by omega) (by omega) (by omega) y1
/-- What solves such rows is finite. -/
theorem great_solve {f : Nat → Nat → Nat} {b : Nat → Nat} {n : Nat} (hn : n ≤ 5) (h0 : GreatK f n 0) (hb : ∀ i, i < n → Btw (-13312) 13312 (b i)) (i : Nat) (hi : i < n) : Btw (-1811082903552) 1811082903552 (solveF (elF f n n) n b i) := by
  have g := great_all hn h0 n (Nat.le_refl _)
  obtain ⟨k1, k2, k3, k4⟩ := topK n hn
  have h := bk_btw hn (fun i j h1 h2 => btw_le (g.u i j h1 h2) (show -12500 ≤ _ by omega) (show _ ≤ 12500 by omega)) (fun i h1 => btw_le (g.d i h1) (show 28460 ≤ _ by omega) (show _ ≤ 53460 by omega))
    (fun i h1 => btw_le (fw_btw hn (fun i j h2 h3 => g.m i j h2 h3 (by omega)) hb i h1) (show -212992 ≤ _ by have := numY i (by omega); omega) (show _ ≤ 212992 by have := numY i (by omega); omega)) (n - 1 - i) (by omega)
  rw [show n - 1 - (n - 1 - i) = i by omega] at h
  have := numX (n - 1 - i) (by omega)
  exact btw_le h (by omega) (by omega)
end Go.Proofs.Ytainodgbcpkipaa
