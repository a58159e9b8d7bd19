/-
  Rows that the laws of equations make, with 40 added from corner to corner: how great they are.
-/
import Derived.Test.YtainodgbcpkipaaLsc
import Derived.Test.YtainodgbcpkipaaLma
namespace Go.Proofs.Ytainodgbcpkipaa
open Go.RowKit
open Ieee (double)

def f40 : Nat := 4630826316843712512
theorem c4_bounds : ∀ i : Fin 33, Btw (-4096) 4096 (c4 ((i.val : Int) - 16)) ∧ Btw 36864 45056 (cop .add (c4 ((i.val : Int) - 16)) f40) := by
  unfold Btw
  decide +kernel
theorem c8_bounds : ∀ i : Fin 201, Btw (-13312) 13312 (c8 ((i.val : Int) - 100)) := by
  unfold Btw
  decide +kernel
theorem makeV_btw (zs : List Int) (k i j : Nat) : Btw (-4096) 4096 (makeV zs k i j) ∧ Btw 36864 45056 (cop .add (makeV zs k i j) f40) := by
  have b1 := Int.emod_nonneg (nth zs (i * 7 + j) (i * k + j)) (show (33 : Int) ≠ 0 by decide)
  have b2 := Int.emod_lt_of_pos (nth zs (i * 7 + j) (i * k + j)) (show (0 : Int) < 33 by decide)
  have h := c4_bounds ⟨(nth zs (i * 7 + j) (i * k + j) % 33).toNat, by omega⟩
  have e : (((nth zs (i * 7 + j) (i * k + j) % 33).toNat : Nat) : Int) = nth zs (i * 7 + j) (i * k + j) % 33 := by omega
  simp only [e] at h
  exact h
theorem rowV_btw (zs : List Int) (i : Nat) : Btw (-13312) 13312 (rowV zs i) := by
  have b1 := Int.emod_nonneg (nth zs i i) (show (201 : Int) ≠ 0 by decide)
  have b2 := Int.emod_lt_of_pos (nth zs i i) (show (0 : Int) < 201 by decide)
  have h := c8_bounds ⟨(nth zs i i % 201).toNat, by omega⟩
  have e : (((nth zs i i % 201).toNat : Nat) : Int) = nth zs i i % 201 := by omega
  simp only [e] at h
  exact h
/-- With 40 added in the first d corners. -/
def dg (f : Nat → Nat → Nat) (d : Nat) : Nat → Nat → Nat := fun i j => if i = j ∧ i < d then cop .add (f i j) f40 else f i j
theorem dg_set (f : Nat → Nat → Nat) (d i j : Nat) : updN2 (dg f d) d d (cop .add (f d d) f40) i j = dg f (d + 1) i j := by
  by_cases h : i = d ∧ j = d
  · obtain ⟨rfl, rfl⟩ := h
    rw [updN2_at]; unfold dg; rw [if_pos ⟨rfl, by omega⟩]
  · rw [updN2_ne _ _ (by omega)]
    unfold dg
    by_cases g : i = j ∧ i < d
    · rw [if_pos g, if_pos ⟨g.1, by omega⟩]
    · rw [if_neg g, if_neg (by omega)]
theorem great_dg {f : Nat → Nat → Nat} {n : Nat} (hf : ∀ i j, Btw (-4096) 4096 (f i j) ∧ Btw 36864 45056 (cop .add (f i j) f40)) : GreatK (dg f n) n 0 :=
  ⟨fun i hi => by unfold dg; rw [if_pos ⟨rfl, hi⟩]; exact (hf i i).2, fun i j hij hj => by unfold dg; rw [if_neg (by omega)]; exact (hf i j).1,
    fun i j hij hi _ => by unfold dg; rw [if_neg (by omega)]; exact (hf i j).1, fun i j _ _ h => by omega⟩
/-- One that is there twice, taken from itself. -/
theorem diff_none {x y c : Nat} {a b : Int} (hx : canon x = c) (hy : canon y = c) (hc : Btw a b c) (w : World) : ltB 4472406533629990549 (ab (fval .sub w x y)) = false ∧ fval .sub w x y < 18446744073709551616 := by
  have e : canon (fval .sub w x y) = cop .sub c c := by rw [canon_fval, ← cop_canon_left, ← cop_canon_right, hx, hy]
  obtain ⟨n1, n2, -⟩ := sub_val hc.1 hc.1
  rw [Int.sub_self] at n2
  have h0 : RK 0 (-1074) = 0 := by decide
  rw [h0] at n2
  have nf : isN (fval .sub w x y) = false := by rw [← isN_canon, e]; exact n1
  rw [canon_num nf] at e
  rw [e]
  refine ⟨?_, cop_lt _ _ _⟩
  generalize cop .sub c c = u at *
  have hu : u % p63 = 0 := by
    rw [key_eq] at n2; unfold sgd at n2; split at n2 <;> omega
  have ha : ab u = 0 := hu
  rw [ha]; decide
end Go.Proofs.Ytainodgbcpkipaa
