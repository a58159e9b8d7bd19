/-
  How a tape changes: plain functions.
-/
import Derived.Test.YtnlbafjmbamoeaaTpr
namespace Go.Proofs.Ytnlbafjmbamoeaa
open Go.RowKit
open Ieee (double)

/-- How what two numbers make changes: of u, v that make q, that change by a, b. -/
def chF (k : Int) (u v q a b : Nat) : Nat :=
  if k = 2 then cop .add a b else if k = 3 then cop .sub a b
  else if k = 4 then cop .add (cop .mul a v) (cop .mul u b)
  else cop .quo (cop .sub a (cop .mul q b)) v
/-- How an operation changes with variable v. -/
def valD (o : OpD) (r : Nat → Nat) (q : Nat) (d : Nat → Nat → Nat) (v : Nat) : Nat :=
  if o.k = 0 then 0 else if o.k = 1 then (if v = o.a.toNat then 4607182418800017408 else 0)
  else chF o.k (r o.a.toNat) (r o.b.toNat) q (d o.a.toNat v) (d o.b.toNat v)
def dvL (op : Nat → OpD) (x : Nat → Nat) : Nat → List (Nat → Nat)
  | 0 => []
  | i + 1 => dvL op x i ++ [valD (op i) (evR op x) (evR op x i) fun j => (dvL op x i).getD j fun _ => 0]
def dvR (op : Nat → OpD) (x : Nat → Nat) (j : Nat) : Nat → Nat := valD (op j) (evR op x) (evR op x j) fun i => (dvL op x j).getD i fun _ => 0
theorem dvL_len (op : Nat → OpD) (x : Nat → Nat) : ∀ i, (dvL op x i).length = i
  | 0 => rfl
  | i + 1 => by rw [dvL, List.length_append, dvL_len op x i]; rfl
theorem dvL_get (op : Nat → OpD) (x : Nat → Nat) {j : Nat} : ∀ {i : Nat}, j < i → (dvL op x i).getD j (fun _ => 0) = dvR op x j
  | i + 1, h => by
    have hl := dvL_len op x i
    rw [dvL]
    by_cases e : j = i
    · subst e
      unfold dvR
      simp [List.getD, hl]
    · have : ∀ y, (dvL op x i ++ [y]).getD j (fun _ => 0) = (dvL op x i).getD j (fun _ => 0) := fun y => by simp [List.getD, List.getElem?_append_left (show j < (dvL op x i).length by omega)]
      rw [this]
      exact dvL_get op x (by omega)
/-- Operation by operation: what the ones ahead of it change by. -/
theorem dvR_eq (op : Nat → OpD) (x : Nat → Nat) (j : Nat) (h2 : (op j).k ≠ 0 → (op j).k ≠ 1 → (op j).a.toNat < j ∧ (op j).b.toNat < j) : dvR op x j = valD (op j) (evR op x) (evR op x j) (dvR op x) := by
  funext v
  show valD (op j) (evR op x) (evR op x j) (fun i => (dvL op x j).getD i fun _ => 0) v = _
  unfold valD
  by_cases k0 : (op j).k = 0
  · rw [if_pos k0, if_pos k0]
  · rw [if_neg k0, if_neg k0]
    by_cases k1 : (op j).k = 1
    · rw [if_pos k1, if_pos k1]
    · obtain ⟨ha, hb⟩ := h2 k0 k1
      have ea := dvL_get op x ha
      have eb := dvL_get op x hb
      rw [if_neg k1, if_neg k1]
      simp only [ea, eb]
theorem evR_eq (op : Nat → OpD) (x : Nat → Nat) (j : Nat) (h2 : (op j).k ≠ 0 → (op j).k ≠ 1 → (op j).a.toNat < j ∧ (op j).b.toNat < j) : evR op x j = valO (op j) x (evR op x) := by
  show valO (op j) x (fun i => (evL op x j).getD i 0) = _
  unfold valO
  by_cases k0 : (op j).k = 0
  · rw [if_pos k0, if_pos k0]
  · rw [if_neg k0, if_neg k0]
    by_cases k1 : (op j).k = 1
    · rw [if_pos k1, if_pos k1]
    · obtain ⟨ha, hb⟩ := h2 k0 k1
      have ea := evL_get op x ha
      have eb := evL_get op x hb
      rw [if_neg k1, if_neg k1]
      simp only [ea, eb]
end Go.Proofs.Ytnlbafjmbamoeaa
