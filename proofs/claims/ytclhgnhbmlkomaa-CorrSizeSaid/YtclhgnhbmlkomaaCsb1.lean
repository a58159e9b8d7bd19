/-
  Quotients of small whole numbers: of twice as much, exactly twice: each tried. (Part 2.)
-/
import Derived.Test.YtclhgnhbmlkomaaCsa
namespace Go.Proofs.Ytclhgnhbmlkomaa
open Go.RowKit Ex
theorem csRow_50 : csRow 50 = true := by decide +kernel
theorem csRow_125 : csRow 125 = true := by decide +kernel
theorem csRow_200 : csRow 200 = true := by decide +kernel
theorem csRow_275 : csRow 275 = true := by decide +kernel
theorem csRow_350 : csRow 350 = true := by decide +kernel
theorem csRow_425 : csRow 425 = true := by decide +kernel
theorem csRow_500 : csRow 500 = true := by decide +kernel
theorem csRow_575 : csRow 575 = true := by decide +kernel
theorem csRow_650 : csRow 650 = true := by decide +kernel
theorem csRow_725 : csRow 725 = true := by decide +kernel
theorem csRow_800 : csRow 800 = true := by decide +kernel
theorem csRow_875 : csRow 875 = true := by decide +kernel
theorem csRow_950 : csRow 950 = true := by decide +kernel
end Go.Proofs.Ytclhgnhbmlkomaa
