/-
  Quotients of small whole numbers: of twice as much, exactly twice: each tried. (Part 3.)
-/
import Derived.Test.YtclhgnhbmlkomaaCsa
namespace Go.Proofs.Ytclhgnhbmlkomaa
open Go.RowKit Ex
theorem csRow_75 : csRow 75 = true := by decide +kernel
theorem csRow_150 : csRow 150 = true := by decide +kernel
theorem csRow_225 : csRow 225 = true := by decide +kernel
theorem csRow_300 : csRow 300 = true := by decide +kernel
theorem csRow_375 : csRow 375 = true := by decide +kernel
theorem csRow_450 : csRow 450 = true := by decide +kernel
theorem csRow_525 : csRow 525 = true := by decide +kernel
theorem csRow_600 : csRow 600 = true := by decide +kernel
theorem csRow_675 : csRow 675 = true := by decide +kernel
theorem csRow_750 : csRow 750 = true := by decide +kernel
theorem csRow_825 : csRow 825 = true := by decide +kernel
theorem csRow_900 : csRow 900 = true := by decide +kernel
theorem csRow_975 : csRow 975 = true := by decide +kernel
end Go.Proofs.Ytclhgnhbmlkomaa
