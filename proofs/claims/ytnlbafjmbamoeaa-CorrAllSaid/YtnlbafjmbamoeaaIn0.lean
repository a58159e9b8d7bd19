/-
  Slices of numbers that are handed in: how they read.
-/
import Derived.Test.YtnlbafjmbamoeaaRows
import Derived.KernelRfl
import Derived.ChangeSlices
namespace Go.Proofs.Ytnlbafjmbamoeaa


/-- A slice that reads as these whole numbers. -/
def Ints (w : World) (v : Value) (zs : List Int) : Prop :=
  (∃ o cap, v = .slice o 0 cap ∧ zs = []) ∨ ∃ b off cap, v = .slice (some ⟨b, off, none⟩) zs.length cap ∧ b < w.heap.size ∧ zs.length ≤ 9223372036854775807 ∧ (∀ i, i < zs.length → w.cell? ⟨b, off + i, none⟩ = some (.int .i64 (zs.getD i 0)))
/-- A slice that reads as these floats. -/
def Flts (w : World) (v : Value) (xs : List Nat) : Prop :=
  (∃ o cap, v = .slice o 0 cap ∧ xs = []) ∨ ∃ b off cap, v = .slice (some ⟨b, off, none⟩) xs.length cap ∧ b < w.heap.size ∧ xs.length ≤ 9223372036854775807 ∧ (∀ i, i < xs.length → xs.getD i 0 < 18446744073709551616 ∧ w.cell? ⟨b, off + i, none⟩ = some (.float .f64 (xs.getD i 0)))
end Go.Proofs.Ytnlbafjmbamoeaa
