/-
  What is said ahead of each law of equations.
-/
import Derived.Test.YtainodgbcpkipaaB6s
import Derived.Test.YtainodgbcpkipaaHa
namespace Go.Proofs.Ytainodgbcpkipaa
open Go.RowKit Ex
theorem known_tells (w : World) : Calls Try.prog 13 #[] w (Tells (.bool true) w) :=
  (run_law (V := adV [] ivX) mixed namesAll gam_nil (ctrB_ok (adI_ok []) (t := []) (fun _ _ _ h => by cases h)) known_run (vs := #[]) trivial w).mono fun _ _ h => h
end Go.Proofs.Ytainodgbcpkipaa
