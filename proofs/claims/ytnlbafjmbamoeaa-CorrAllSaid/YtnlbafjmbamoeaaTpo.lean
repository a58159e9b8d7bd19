/-
  The tapes that a law makes of numbers may be.
-/
import Derived.Test.YtnlbafjmbamoeaaTpm
namespace Go.Proofs.Ytnlbafjmbamoeaa
open Go.RowKit
open Ieee (double)

theorem cst_fin : ∀ i : Fin 33, finB (cst ((i.val : Int) - 16) 4616189618054758400) = true ∧ finB (cst ((i.val : Int) - 16) 4620693217682128896) = true := by decide +kernel
theorem cst_fin' {x : Int} (h1 : -16 ≤ x) (h2 : x ≤ 16) : finB (cst x 4616189618054758400) = true ∧ finB (cst x 4620693217682128896) = true := by
  have h := cst_fin ⟨(x + 16).toNat, by omega⟩
  have e : (((x + 16).toNat : Nat) : Int) - 16 = x := by omega
  simp only [e] at h
  exact h
theorem belowB_of {a n : Int} (h1 : 0 ≤ a) (h2 : a < n) : belowB a n = true := by
  unfold belowB
  rw [decide_eq_true h1, decide_eq_true h2]
  rfl
theorem opOf_stands (k : Int) {i : Nat} (hi : 0 < i) (div : Bool) (n : Int) : standsB (opOf k i div) i n = true := by
  unfold opOf
  have z : eqB 0 0 = true := by decide
  by_cases h : k % 11 = 0
  · rw [if_pos h]
    have g1 := Int.emod_nonneg (k.tdiv 11) (show (33 : Int) ≠ 0 by decide)
    have g2 := Int.emod_lt_of_pos (k.tdiv 11) (show (0 : Int) < 33 by decide)
    have := (cst_fin' (x := k.tdiv 11 % 33 - 16) (by omega) (by omega)).2
    unfold standsB
    simp [this]
  · rw [if_neg h]
    have hi' : (0 : Int) < i := by omega
    have b1 := belowB_of (Int.emod_nonneg (k.tdiv 4) (show (i : Int) ≠ 0 by omega)) (Int.emod_lt_of_pos (k.tdiv 4) hi')
    have b2 := belowB_of (Int.emod_nonneg (k.tdiv 40) (show (i : Int) ≠ 0 by omega)) (Int.emod_lt_of_pos (k.tdiv 40) hi')
    have g1 := Int.emod_nonneg k (show (3 : Int) ≠ 0 by decide)
    have g2 := Int.emod_lt_of_pos k (show (0 : Int) < 3 by decide)
    unfold standsB
    simp only []
    have hk : 2 ≤ (if div = true ∧ k % 7 = 0 then (5 : Int) else 2 + k % 3) ∧ (if div = true ∧ k % 7 = 0 then (5 : Int) else 2 + k % 3) ≤ 5 := by split <;> omega
    rw [if_neg (by omega), if_neg (by omega), if_pos hk, b1, b2, z]
    rfl
theorem make_stands (n : Int) (ns : Nat → Int) (div : Bool) (i : Nat) : standsB (opAt n ns div i) i (1 + n % 3) = true := by
  have n1 := Int.emod_nonneg n (show (3 : Int) ≠ 0 by decide)
  have z : eqB 0 0 = true := by decide
  unfold opAt
  by_cases h1 : (i : Int) < 1 + n % 3
  · rw [if_pos h1]
    unfold standsB
    simp [z, belowB_of (show (0 : Int) ≤ i by omega) h1]
  · rw [if_neg h1]
    by_cases h2 : (i : Int) = 1 + n % 3
    · rw [if_pos h2]
      have g1 := Int.emod_nonneg n (show (17 : Int) ≠ 0 by decide)
      have g2 := Int.emod_lt_of_pos n (show (0 : Int) < 17 by decide)
      have := (cst_fin' (x := n % 17 - 8) (by omega) (by omega)).1
      unfold standsB
      simp [this]
    · rw [if_neg h2]
      exact opOf_stands _ (by omega) div _
theorem check_make (n : Int) (ns : Nat → Int) (len : Nat) (div : Bool) : checkB (makeT n ns len div) = true := by
  have n1 := Int.emod_nonneg n (show (3 : Int) ≠ 0 by decide)
  have n2 := Int.emod_lt_of_pos n (show (0 : Int) < 3 by decide)
  have h1 : allB (makeT n ns len div).len (fun i => standsB ((makeT n ns len div).op i) i (makeT n ns len div).n) = true := allB_iff.2 fun i _ => make_stands n ns div i
  have h2 : allB (makeT n ns len div).lo (fun i => belowB ((makeT n ns len div).out i) (makeT n ns len div).len) = true := allB_iff.2 fun i _ => by
    unfold makeT
    simp only []
    generalize hL : (1 + n % 3).toNat + 1 + min len 8 = L
    have hp : (0 : Int) < ((min 3 L : Nat) : Int) := by omega
    have m1 := Int.emod_nonneg (n.tdiv 3 + (i : Int)) (show ((min 3 L : Nat) : Int) ≠ 0 by omega)
    have m2 := Int.emod_lt_of_pos (n.tdiv 3 + (i : Int)) hp
    exact belowB_of (by omega) (by omega)
  unfold checkB
  rw [h1, h2, Bool.and_true, Bool.and_true, decide_eq_true_eq]
  unfold makeT
  simp only []
  omega
end Go.Proofs.Ytnlbafjmbamoeaa
