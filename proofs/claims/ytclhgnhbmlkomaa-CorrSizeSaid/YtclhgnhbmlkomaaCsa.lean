/-
  Quotients of small whole numbers: of twice as much, exactly twice: each tried. (Part 0.)
-/
import Derived.Test.YtclhgnhbmlkomaaB9t
namespace Go.Proofs.Ytclhgnhbmlkomaa
open Go.RowKit Ex
def csQ (n w : Nat) : Nat := cop .quo (i2fV n) (i2fV w)
def csChk (n w : Nat) : Bool := decide (cop .quo (cop .mul 4611686018427387904 (i2fV n)) (i2fV w) = cop .mul 4611686018427387904 (csQ n w)) && (decide (csQ n w % p63 < infR) && decide (csQ n w < 18446744073709551616))
def csAbs (n : Nat) : Bool := (decide (canon (i2fV (-(n : Int))) % p63 = i2fV n) && decide (canon (i2fV n) % p63 = i2fV n)) && (decide (canon (cop .mul 4611686018427387904 (i2fV (-(n : Int)))) % p63 = cop .mul 4611686018427387904 (i2fV n)) && decide (canon (cop .mul 4611686018427387904 (i2fV n)) % p63 = cop .mul 4611686018427387904 (i2fV n)))
def csRow (a : Nat) : Bool := (List.range 25).all fun i => (List.range 50).all fun j => csChk (a + i) (j + 1)
theorem csAbs_all : (List.range 1001).all csAbs = true := by decide +kernel
theorem csRow_0 : csRow 0 = true := by decide +kernel
end Go.Proofs.Ytclhgnhbmlkomaa
