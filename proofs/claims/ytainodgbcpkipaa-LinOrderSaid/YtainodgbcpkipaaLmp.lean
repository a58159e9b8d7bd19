/-
  Rows of one number each solved: each by its own.
-/
import Derived.Test.YtainodgbcpkipaaLmo
namespace Go.Proofs.Ytainodgbcpkipaa
open Ieee (double)

def d8 (x : Int) : Nat := cop .quo (c8 x) four64
theorem c8_facts : ∀ i : Fin 201, (cop .mul 0 (c8 ((i.val : Int) - 100)) = 0 ∨ cop .mul 0 (c8 ((i.val : Int) - 100)) = p63) ∧ cop .sub (c8 ((i.val : Int) - 100)) 0 = c8 ((i.val : Int) - 100) ∧ cop .sub (c8 ((i.val : Int) - 100)) p63 = c8 ((i.val : Int) - 100) ∧ (cop .mul 0 (d8 ((i.val : Int) - 100)) = 0 ∨ cop .mul 0 (d8 ((i.val : Int) - 100)) = p63) ∧ isN (d8 ((i.val : Int) - 100)) = false := by decide +kernel
theorem c8_fact {x : Int} (h1 : -100 ≤ x) (h2 : x ≤ 100) : (cop .mul 0 (c8 x) = 0 ∨ cop .mul 0 (c8 x) = p63) ∧ cop .sub (c8 x) 0 = c8 x ∧ cop .sub (c8 x) p63 = c8 x ∧ (cop .mul 0 (d8 x) = 0 ∨ cop .mul 0 (d8 x) = p63) ∧ isN (d8 x) = false := by
  have := c8_facts ⟨(x + 100).toNat, by omega⟩
  have e : (((x + 100).toNat : Nat) : Int) - 100 = x := by omega
  simp only [e] at this
  exact this
theorem subs_z {r x : Nat → Nat} {b : Nat} (h0 : cop .sub b 0 = b) (h1 : cop .sub b p63 = b) : ∀ {m : Nat}, (∀ j, j < m → r j = 0 ∧ (cop .mul 0 (x j) = 0 ∨ cop .mul 0 (x j) = p63)) → subsF r x b m = b
  | 0, _ => rfl
  | m + 1, h => by
    rw [subsF, subs_z h0 h1 (fun j hj => h j (by omega)), (h m (by omega)).1]
    rcases (h m (by omega)).2 with e | e
    · rw [e, h0]
    · rw [e, h1]
theorem solve_one {g : Nat → Nat → Nat} {b : Nat → Nat} {u : Nat → Int} {n : Nat} (hg : ∀ i j, i < n → j < n → g i j = oneF (fun i => i) i j) (hb : ∀ i, i < n → b i = c8 (u i) ∧ -100 ≤ u i ∧ u i ≤ 100) : ∀ i, i < n → solveF g n b i = d8 (u i) := by
  have fw : ∀ i, i < n → fwF g b i = b i := by
    intro i
    induction i using Nat.strongRecOn with
    | _ i ih =>
      intro hi
      obtain ⟨b1, b2, b3⟩ := hb i hi
      have f := c8_fact b2 b3
      rw [fwF_eq]
      refine subs_z (by rw [b1]; exact f.2.1) (by rw [b1]; exact f.2.2.1) fun j hj => ⟨?_, ?_⟩
      · rw [hg i j hi (by omega)]; exact oneF_ne (t := fun i => i) (by omega)
      · obtain ⟨c1, c2, c3⟩ := hb j (by omega)
        rw [ih j hj (by omega), c1]; exact (c8_fact c2 c3).1
  have bk : ∀ d i, n - 1 - i = d → i < n → bkF g n (fwF g b) i = d8 (u i) := by
    intro d
    induction d using Nat.strongRecOn with
    | _ d ih =>
      intro i hd hi
      obtain ⟨b1, b2, b3⟩ := hb i hi
      have f := c8_fact b2 b3
      rw [bkF_eq g n _ hi, hg i i hi hi, oneF_at (t := fun i => i) rfl, fw i hi, subs_z (by rw [b1]; exact f.2.1) (by rw [b1]; exact f.2.2.1) fun j hj => ⟨?_, ?_⟩]
      · rw [b1]; rfl
      · rw [hg i (i + 1 + j) hi (by omega)]; exact oneF_ne (t := fun i => i) (by omega)
      · obtain ⟨c1, c2, c3⟩ := hb (i + 1 + j) (by omega)
        rw [ih (n - 1 - (i + 1 + j)) (by omega) (i + 1 + j) rfl (by omega)]; exact (c8_fact c2 c3).2.2.2.1
  exact fun i hi => bk _ i rfl hi
end Go.Proofs.Ytainodgbcpkipaa
