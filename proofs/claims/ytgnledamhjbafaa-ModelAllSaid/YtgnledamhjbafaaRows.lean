/-
  No cell of these rows narrows 'for every input' (looked for: loops, veiled, ifaces, maps, wideKeys, modest, calm, conditions, laid).
  DERIVED. THE GIVEN ROWS OF THIS SEAT. 7 by the template 'for every input the law returns true; each argument reads behind the call as it read before'; 0 by the template 'total and deterministic' (their statements: YtgnledamhjbafaaTotals.lean).
  GIVEN WITH THE SEED: the statements are not yours to turn. If you find one false, say at which input.
  Laid BY PROGRAM, IN A SANDBOX (cutbox-rows.mjs): the forced cells as the released guide's own fill.sh prints them over the translation a354041f50b392d3… (all of the seat's roots in one cut). By AI agents, Wed Nov 11 2026. No macro, syntax, notation, axiom, sorry.
-/
import Derived.Test.YtgnledamhjbafaaChecked
import GoSem.Claim
import GoSem.ClaimJoined
import GoSem.ClaimMapViews
import Derived.JoinedTies
import Derived.KernelRfl
namespace Go.Proofs.Ytgnledamhjbafaa
/- THE CELL 'sum', in the pinned program and in every row, IS THE sha256 OF THE DUMP (.gsa) THAT YtgnledamhjbafaaProg.lean LOADS. Nothing in Lean hashes anything: it is a label: what it is worth is what the hold of that sum in a sandbox is worth. -/
noncomputable def Try.pinned : Pinned := { name := "ytgnledamhjbafaa", sum := "a354041f50b392d381dbc21905323a55fe4e707fc16869813dd9ba1fd8518c67", checked := Try.checked }
namespace Rows
def none {H : Type} : Left H := { results := [], args := [] }

/-- 'envelopelaw5.ModelAll': WHATEVER THE INPUT: true; the input reads as it did. -/
def modelAllSpec : ChangeSpec := { name := "modelAll", fn := fun _ => fun
  | [d1, d2, d3, d4, d5] => { results := [.lit (.bool true)], args := [d1, d2, d3, d4, d5] }
  | _ => none }
def modelAllRow : OpenClaim := { program := "ytgnledamhjbafaa", sum := "a354041f50b392d381dbc21905323a55fe4e707fc16869813dd9ba1fd8518c67", func := "envelope/envelopelaw5.ModelAll", spec := "modelAll", inPlace := ["math.Float64frombits", "math.Float64bits"], unfollowed := true, recurses := true, apart := false }
def ModelAllSaid : Prop := modelAllRow.holds Try.pinned (OpenSpec.ofChange modelAllSpec)

/-- ITS FALSE NEIGHBOUR: 'it returns false'. Refute it at one input. -/
def modelAllWrong : ChangeSpec := { name := "modelAll", fn := fun _ => fun
  | [d1, d2, d3, d4, d5] => { results := [.lit (.bool false)], args := [d1, d2, d3, d4, d5] }
  | _ => none }
def ModelAllWrongFalsely : Prop := modelAllRow.holds Try.pinned (OpenSpec.ofChange modelAllWrong)

/-- 'envelopelaw5.ModelHolds': WHATEVER THE INPUT: true; the input reads as it did. -/
def modelHoldsSpec : ChangeSpec := { name := "modelHolds", fn := fun _ => fun
  | [d1, d2, d3, d4] => { results := [.lit (.bool true)], args := [d1, d2, d3, d4] }
  | _ => none }
def modelHoldsRow : OpenClaim := { program := "ytgnledamhjbafaa", sum := "a354041f50b392d381dbc21905323a55fe4e707fc16869813dd9ba1fd8518c67", func := "envelope/envelopelaw5.ModelHolds", spec := "modelHolds", inPlace := ["math.Float64frombits", "math.Float64bits"], unfollowed := true, recurses := true, apart := false }
def ModelHoldsSaid : Prop := modelHoldsRow.holds Try.pinned (OpenSpec.ofChange modelHoldsSpec)

/-- ITS FALSE NEIGHBOUR: 'it returns false'. Refute it at one input. -/
def modelHoldsWrong : ChangeSpec := { name := "modelHolds", fn := fun _ => fun
  | [d1, d2, d3, d4] => { results := [.lit (.bool false)], args := [d1, d2, d3, d4] }
  | _ => none }
def ModelHoldsWrongFalsely : Prop := modelHoldsRow.holds Try.pinned (OpenSpec.ofChange modelHoldsWrong)

/-- 'envelopelaw5.ModelDivides': WHATEVER THE INPUT: true; the input reads as it did. -/
def modelDividesSpec : ChangeSpec := { name := "modelDivides", fn := fun _ => fun
  | [d1, d2, d3] => { results := [.lit (.bool true)], args := [d1, d2, d3] }
  | _ => none }
def modelDividesRow : OpenClaim := { program := "ytgnledamhjbafaa", sum := "a354041f50b392d381dbc21905323a55fe4e707fc16869813dd9ba1fd8518c67", func := "envelope/envelopelaw5.ModelDivides", spec := "modelDivides", inPlace := ["math.Float64frombits", "math.Float64bits"], unfollowed := true, recurses := true, apart := false }
def ModelDividesSaid : Prop := modelDividesRow.holds Try.pinned (OpenSpec.ofChange modelDividesSpec)

/-- ITS FALSE NEIGHBOUR: 'it returns false'. Refute it at one input. -/
def modelDividesWrong : ChangeSpec := { name := "modelDivides", fn := fun _ => fun
  | [d1, d2, d3] => { results := [.lit (.bool false)], args := [d1, d2, d3] }
  | _ => none }
def ModelDividesWrongFalsely : Prop := modelDividesRow.holds Try.pinned (OpenSpec.ofChange modelDividesWrong)

/-- 'envelopelaw5.ModelEvals': WHATEVER THE INPUT: true; the input reads as it did. -/
def modelEvalsSpec : ChangeSpec := { name := "modelEvals", fn := fun _ => fun
  | [d1, d2, d3, d4, d5, d6] => { results := [.lit (.bool true)], args := [d1, d2, d3, d4, d5, d6] }
  | _ => none }
def modelEvalsRow : OpenClaim := { program := "ytgnledamhjbafaa", sum := "a354041f50b392d381dbc21905323a55fe4e707fc16869813dd9ba1fd8518c67", func := "envelope/envelopelaw5.ModelEvals", spec := "modelEvals", inPlace := ["math.Float64frombits", "math.Float64bits"], unfollowed := true, recurses := true, apart := false }
def ModelEvalsSaid : Prop := modelEvalsRow.holds Try.pinned (OpenSpec.ofChange modelEvalsSpec)

/-- ITS FALSE NEIGHBOUR: 'it returns false'. Refute it at one input. -/
def modelEvalsWrong : ChangeSpec := { name := "modelEvals", fn := fun _ => fun
  | [d1, d2, d3, d4, d5, d6] => { results := [.lit (.bool false)], args := [d1, d2, d3, d4, d5, d6] }
  | _ => none }
def ModelEvalsWrongFalsely : Prop := modelEvalsRow.holds Try.pinned (OpenSpec.ofChange modelEvalsWrong)

/-- 'envelopelaw5.ModelPoints': WHATEVER THE INPUT: true; the input reads as it did. -/
def modelPointsSpec : ChangeSpec := { name := "modelPoints", fn := fun _ => fun
  | [d1, d2, d3] => { results := [.lit (.bool true)], args := [d1, d2, d3] }
  | _ => none }
def modelPointsRow : OpenClaim := { program := "ytgnledamhjbafaa", sum := "a354041f50b392d381dbc21905323a55fe4e707fc16869813dd9ba1fd8518c67", func := "envelope/envelopelaw5.ModelPoints", spec := "modelPoints", inPlace := ["math.Float64frombits", "math.Float64bits", "math.archFloor", "math.archTrunc"], unfollowed := true, recurses := true, apart := false }
def ModelPointsSaid : Prop := modelPointsRow.holds Try.pinned (OpenSpec.ofChange modelPointsSpec)

/-- ITS FALSE NEIGHBOUR: 'it returns false'. Refute it at one input. -/
def modelPointsWrong : ChangeSpec := { name := "modelPoints", fn := fun _ => fun
  | [d1, d2, d3] => { results := [.lit (.bool false)], args := [d1, d2, d3] }
  | _ => none }
def ModelPointsWrongFalsely : Prop := modelPointsRow.holds Try.pinned (OpenSpec.ofChange modelPointsWrong)

/-- 'envelopelaw5.ModelTurns': WHATEVER THE INPUT: true; the input reads as it did. -/
def modelTurnsSpec : ChangeSpec := { name := "modelTurns", fn := fun _ => fun
  | [d1, d2, d3, d4] => { results := [.lit (.bool true)], args := [d1, d2, d3, d4] }
  | _ => none }
def modelTurnsRow : OpenClaim := { program := "ytgnledamhjbafaa", sum := "a354041f50b392d381dbc21905323a55fe4e707fc16869813dd9ba1fd8518c67", func := "envelope/envelopelaw5.ModelTurns", spec := "modelTurns", inPlace := ["math.Float64frombits", "math.Float64bits"], unfollowed := true, recurses := true, apart := false }
def ModelTurnsSaid : Prop := modelTurnsRow.holds Try.pinned (OpenSpec.ofChange modelTurnsSpec)

/-- ITS FALSE NEIGHBOUR: 'it returns false'. Refute it at one input. -/
def modelTurnsWrong : ChangeSpec := { name := "modelTurns", fn := fun _ => fun
  | [d1, d2, d3, d4] => { results := [.lit (.bool false)], args := [d1, d2, d3, d4] }
  | _ => none }
def ModelTurnsWrongFalsely : Prop := modelTurnsRow.holds Try.pinned (OpenSpec.ofChange modelTurnsWrong)

/-- 'envelopelaw5.ModelSquares': WHATEVER THE INPUT: true; the input reads as it did. -/
def modelSquaresSpec : ChangeSpec := { name := "modelSquares", fn := fun _ => fun
  | [d1, d2] => { results := [.lit (.bool true)], args := [d1, d2] }
  | _ => none }
def modelSquaresRow : OpenClaim := { program := "ytgnledamhjbafaa", sum := "a354041f50b392d381dbc21905323a55fe4e707fc16869813dd9ba1fd8518c67", func := "envelope/envelopelaw5.ModelSquares", spec := "modelSquares", inPlace := ["math.Float64frombits", "math.Float64bits"], unfollowed := true, recurses := true, apart := false }
def ModelSquaresSaid : Prop := modelSquaresRow.holds Try.pinned (OpenSpec.ofChange modelSquaresSpec)

/-- ITS FALSE NEIGHBOUR: 'it returns false'. Refute it at one input. -/
def modelSquaresWrong : ChangeSpec := { name := "modelSquares", fn := fun _ => fun
  | [d1, d2] => { results := [.lit (.bool false)], args := [d1, d2] }
  | _ => none }
def ModelSquaresWrongFalsely : Prop := modelSquaresRow.holds Try.pinned (OpenSpec.ofChange modelSquaresWrong)

/- THE SECOND FORM. 'bulk': how many values and letters a reading holds, each counted each time it is reached (what is shared counts as often as it is met; a slice's spare places count too). A statement '..UptoSaid' is the law's where the arguments, and the package variables that the reading takes, are together of bulk at most 1048576: NARROWER than '..Said'. Prove '..Said' where nothing that the law and all that it calls make is longer than what came in: it says more and counts as full. Else prove '..UptoSaid'. A law counts once. -/
mutual
def uptoBulk {H : Type} : DataW H → Nat
  | .lit (.string bytes) => bytes.length + 1
  | .lit _ => 1
  | .nil => 1
  | .ptr d => uptoBulk d + 1
  | .slice elems spare => uptoBulkAll elems + uptoBulkAll spare + 1
  | .agg parts => uptoBulkAll parts + 1
  | .iface _ d => uptoBulk d + 1
  | .map entries => uptoBulkEntries entries + 1
  | .held _ => 1
def uptoBulkAll {H : Type} : List (DataW H) → Nat
  | [] => 0
  | d :: r => uptoBulk d + uptoBulkAll r
def uptoBulkEntries {H : Type} : List (Lit × DataW H) → Nat
  | [] => 0
  | x :: r => uptoBulkEntry x + uptoBulkEntries r
def uptoBulkEntry {H : Type} : Lit × DataW H → Nat
  | (.string bytes, d) => bytes.length + uptoBulk d + 1
  | (_, d) => uptoBulk d + 1
 end
def uptoSmall : (H : Type) → List (DataW H) → Bool := fun _ ds => decide (uptoBulkAll ds ≤ 1048576)
def OpenSpec.upto (s : _root_.Go.ChangeSpec) : _root_.Go.OpenSpec := { _root_.Go.OpenSpec.ofChange s with cond := some uptoSmall }

/-- 'envelopelaw5.ModelAll', WHERE WHAT IT READS IS OF BULK AT MOST 1048576: true; the input reads as it did. -/
def modelAllUptoRow : OpenClaim := { program := "ytgnledamhjbafaa", sum := "a354041f50b392d381dbc21905323a55fe4e707fc16869813dd9ba1fd8518c67", func := "envelope/envelopelaw5.ModelAll", spec := "modelAll", inPlace := ["math.Float64frombits", "math.Float64bits"], unfollowed := true, recurses := true, apart := false, narrowed := true }
def ModelAllUptoSaid : Prop := modelAllUptoRow.holds Try.pinned (OpenSpec.upto modelAllSpec)

/-- 'envelopelaw5.ModelHolds', WHERE WHAT IT READS IS OF BULK AT MOST 1048576: true; the input reads as it did. -/
def modelHoldsUptoRow : OpenClaim := { program := "ytgnledamhjbafaa", sum := "a354041f50b392d381dbc21905323a55fe4e707fc16869813dd9ba1fd8518c67", func := "envelope/envelopelaw5.ModelHolds", spec := "modelHolds", inPlace := ["math.Float64frombits", "math.Float64bits"], unfollowed := true, recurses := true, apart := false, narrowed := true }
def ModelHoldsUptoSaid : Prop := modelHoldsUptoRow.holds Try.pinned (OpenSpec.upto modelHoldsSpec)

/-- 'envelopelaw5.ModelDivides', WHERE WHAT IT READS IS OF BULK AT MOST 1048576: true; the input reads as it did. -/
def modelDividesUptoRow : OpenClaim := { program := "ytgnledamhjbafaa", sum := "a354041f50b392d381dbc21905323a55fe4e707fc16869813dd9ba1fd8518c67", func := "envelope/envelopelaw5.ModelDivides", spec := "modelDivides", inPlace := ["math.Float64frombits", "math.Float64bits"], unfollowed := true, recurses := true, apart := false, narrowed := true }
def ModelDividesUptoSaid : Prop := modelDividesUptoRow.holds Try.pinned (OpenSpec.upto modelDividesSpec)

/-- 'envelopelaw5.ModelEvals', WHERE WHAT IT READS IS OF BULK AT MOST 1048576: true; the input reads as it did. -/
def modelEvalsUptoRow : OpenClaim := { program := "ytgnledamhjbafaa", sum := "a354041f50b392d381dbc21905323a55fe4e707fc16869813dd9ba1fd8518c67", func := "envelope/envelopelaw5.ModelEvals", spec := "modelEvals", inPlace := ["math.Float64frombits", "math.Float64bits"], unfollowed := true, recurses := true, apart := false, narrowed := true }
def ModelEvalsUptoSaid : Prop := modelEvalsUptoRow.holds Try.pinned (OpenSpec.upto modelEvalsSpec)

/-- 'envelopelaw5.ModelPoints', WHERE WHAT IT READS IS OF BULK AT MOST 1048576: true; the input reads as it did. -/
def modelPointsUptoRow : OpenClaim := { program := "ytgnledamhjbafaa", sum := "a354041f50b392d381dbc21905323a55fe4e707fc16869813dd9ba1fd8518c67", func := "envelope/envelopelaw5.ModelPoints", spec := "modelPoints", inPlace := ["math.Float64frombits", "math.Float64bits", "math.archFloor", "math.archTrunc"], unfollowed := true, recurses := true, apart := false, narrowed := true }
def ModelPointsUptoSaid : Prop := modelPointsUptoRow.holds Try.pinned (OpenSpec.upto modelPointsSpec)

/-- 'envelopelaw5.ModelTurns', WHERE WHAT IT READS IS OF BULK AT MOST 1048576: true; the input reads as it did. -/
def modelTurnsUptoRow : OpenClaim := { program := "ytgnledamhjbafaa", sum := "a354041f50b392d381dbc21905323a55fe4e707fc16869813dd9ba1fd8518c67", func := "envelope/envelopelaw5.ModelTurns", spec := "modelTurns", inPlace := ["math.Float64frombits", "math.Float64bits"], unfollowed := true, recurses := true, apart := false, narrowed := true }
def ModelTurnsUptoSaid : Prop := modelTurnsUptoRow.holds Try.pinned (OpenSpec.upto modelTurnsSpec)

/-- 'envelopelaw5.ModelSquares', WHERE WHAT IT READS IS OF BULK AT MOST 1048576: true; the input reads as it did. -/
def modelSquaresUptoRow : OpenClaim := { program := "ytgnledamhjbafaa", sum := "a354041f50b392d381dbc21905323a55fe4e707fc16869813dd9ba1fd8518c67", func := "envelope/envelopelaw5.ModelSquares", spec := "modelSquares", inPlace := ["math.Float64frombits", "math.Float64bits"], unfollowed := true, recurses := true, apart := false, narrowed := true }
def ModelSquaresUptoSaid : Prop := modelSquaresUptoRow.holds Try.pinned (OpenSpec.upto modelSquaresSpec)

end Rows
end Go.Proofs.Ytgnledamhjbafaa
