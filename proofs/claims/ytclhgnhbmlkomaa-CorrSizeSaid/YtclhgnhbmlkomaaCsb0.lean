/-
  Quotients of small whole numbers: of twice as much, exactly twice: each tried. (Part 1.)
-/
import Derived.Test.YtclhgnhbmlkomaaCsa
namespace Go.Proofs.Ytclhgnhbmlkomaa
open Go.RowKit Ex
theorem csRow_25 : csRow 25 = true := by decide +kernel
theorem csRow_100 : csRow 100 = true := by decide +kernel
theorem csRow_175 : csRow 175 = true := by decide +kernel
theorem csRow_250 : csRow 250 = true := by decide +kernel
theorem csRow_325 : csRow 325 = true := by decide +kernel
theorem csRow_400 : csRow 400 = true := by decide +kernel
theorem csRow_475 : csRow 475 = true := by decide +kernel
theorem csRow_550 : csRow 550 = true := by decide +kernel
theorem csRow_625 : csRow 625 = true := by decide +kernel
theorem csRow_700 : csRow 700 = true := by decide +kernel
theorem csRow_775 : csRow 775 = true := by decide +kernel
theorem csRow_850 : csRow 850 = true := by decide +kernel
theorem csRow_925 : csRow 925 = true := by decide +kernel
theorem csRow_1000 : csRow 1000 = true := by decide +kernel
end Go.Proofs.Ytclhgnhbmlkomaa
