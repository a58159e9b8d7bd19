/-
  The bound of e to the x at numbers that are known: plain functions. No condition.
-/
import Derived.Test.YtbepaoliboooaaaExa
namespace Go.Proofs.Ytbepaoliboooaaa
open Ex

/-- The upper end, step by step. -/
def upH (h : Nat) : Nat := upB (cop .mul h h)
def upN : Nat → Nat → Nat
  | 0, h => h
  | k + 1, h => upH (upN k h)
def expP (x : Nat) : Nat := upB (cop .quo x 4652218415073722368)
def expM (x : Nat) : Nat := downB (cop .sub 4607182418800017408 (expP x))
def expH (x : Nat) : Nat := upN 10 (upB (cop .quo 4607182418800017408 (expM x)))

abbrev C1 : Nat := 4607182418800017408
def C16 : Nat := 4625196817309499392
def C64 : Nat := 4634204016564240384
def xr (n : Int) : Nat := cop .quo (floatOfInt .f64 n) C16
/-- Powers by how many, added up. -/
def sGo : Nat → Nat → Nat → Nat → Nat → Nat
  | 0, _, _, _, s => s
  | k + 1, i, a, t, s => forceN (cop .quo (cop .mul t a) (i2fV i)) fun t' => forceN (cop .add s t') fun s' => sGo k (i + 1) a t' s'
def CC : Nat := 4607182409792818153
/-- What is to hold at one number. -/
def chk (n : Int) : Bool := forceN (xr n) fun x => forceN (expH x) fun e => forceN (expH (cop .sub 0 x)) fun e' =>
  leB (cop .add C1 x) e && (ltB 0 e && (leB C1 (cop .mul e e') && (bif decide (0 ≤ n) && decide (n ≤ 1600) then leB (cop .mul (sGo 30 1 (x % p63) C1 C1) CC) e else true)))
def chkN : Nat → Int → Bool
  | 0, _ => true
  | k + 1, n => chk n && chkN k (n + 1)
end Go.Proofs.Ytbepaoliboooaaa
