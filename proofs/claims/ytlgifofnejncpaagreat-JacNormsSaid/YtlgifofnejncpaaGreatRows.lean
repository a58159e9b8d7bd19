/-
  No cell of these rows narrows 'for every input' (looked for: loops, veiled, ifaces, maps, wideKeys, modest, calm, conditions, laid).
  DERIVED. THE GIVEN ROWS OF THIS SEAT. 3 by the template 'for every input the law returns true; each argument reads behind the call as it read before'; 0 by the template 'total and deterministic' (their statements: YtlgifofnejncpaaGreatTotals.lean).
  GIVEN WITH THE SEED: the statements are not yours to turn. If you find one false, say at which input.
  Laid BY PROGRAM, IN A SANDBOX (cutbox-rows.mjs): the forced cells as the released guide's own fill.sh prints them over the translation c33050cd333ad45c… (all of the seat's roots in one cut). By AI agents, Wed Nov 11 2026. No macro, syntax, notation, axiom, sorry.
-/
import Derived.Test.YtlgifofnejncpaaGreatChecked
import GoSem.Claim
import GoSem.ClaimJoined
import GoSem.ClaimMapViews
import Derived.JoinedTies
import Derived.KernelRfl
namespace Go.Proofs.YtlgifofnejncpaaGreat
/- THE CELL 'sum', in the pinned program and in every row, IS THE sha256 OF THE DUMP (.gsa) THAT YtlgifofnejncpaaGreatProg.lean LOADS. Nothing in Lean hashes anything: it is a label: what it is worth is what the hold of that sum in a sandbox is worth. -/
noncomputable def Tryz.pinned : Pinned := { name := "ytlgifofnejncpaagreat", sum := "c33050cd333ad45ce74a026972ee404fb80c41549bfbf3c423093f89a893aa59", checked := Tryz.checked }
namespace Rows
def none {H : Type} : Left H := { results := [], args := [] }

/-- 'envelopelaw4.JacAll': WHATEVER THE INPUT: true; the input reads as it did. -/
def jacAllSpec : ChangeSpec := { name := "jacAll", fn := fun _ => fun
  | [d1, d2, d3, d4, d5, d6, d7] => { results := [.lit (.bool true)], args := [d1, d2, d3, d4, d5, d6, d7] }
  | _ => none }
def jacAllRow : OpenClaim := { program := "ytlgifofnejncpaagreat", sum := "c33050cd333ad45ce74a026972ee404fb80c41549bfbf3c423093f89a893aa59", func := "envelope/envelopelaw4.JacAll", spec := "jacAll", inPlace := ["math.Float64frombits", "math.Float64bits"], unfollowed := true, recurses := true, apart := false }
def JacAllSaid : Prop := jacAllRow.holds Tryz.pinned (OpenSpec.ofChange jacAllSpec)

/-- ITS FALSE NEIGHBOUR: 'it returns false'. Refute it at one input. -/
def jacAllWrong : ChangeSpec := { name := "jacAll", fn := fun _ => fun
  | [d1, d2, d3, d4, d5, d6, d7] => { results := [.lit (.bool false)], args := [d1, d2, d3, d4, d5, d6, d7] }
  | _ => none }
def JacAllWrongFalsely : Prop := jacAllRow.holds Tryz.pinned (OpenSpec.ofChange jacAllWrong)

/-- 'envelopelaw4.JacNorms': WHATEVER THE INPUT: true; the input reads as it did. -/
def jacNormsSpec : ChangeSpec := { name := "jacNorms", fn := fun _ => fun
  | [d1, d2, d3, d4] => { results := [.lit (.bool true)], args := [d1, d2, d3, d4] }
  | _ => none }
def jacNormsRow : OpenClaim := { program := "ytlgifofnejncpaagreat", sum := "c33050cd333ad45ce74a026972ee404fb80c41549bfbf3c423093f89a893aa59", func := "envelope/envelopelaw4.JacNorms", spec := "jacNorms", inPlace := ["math.Float64frombits", "math.Float64bits"], unfollowed := true, recurses := true, apart := false }
def JacNormsSaid : Prop := jacNormsRow.holds Tryz.pinned (OpenSpec.ofChange jacNormsSpec)

/-- ITS FALSE NEIGHBOUR: 'it returns false'. Refute it at one input. -/
def jacNormsWrong : ChangeSpec := { name := "jacNorms", fn := fun _ => fun
  | [d1, d2, d3, d4] => { results := [.lit (.bool false)], args := [d1, d2, d3, d4] }
  | _ => none }
def JacNormsWrongFalsely : Prop := jacNormsRow.holds Tryz.pinned (OpenSpec.ofChange jacNormsWrong)

/-- 'envelopelaw4.JacHolds': WHATEVER THE INPUT: true; the input reads as it did. -/
def jacHoldsSpec : ChangeSpec := { name := "jacHolds", fn := fun _ => fun
  | [d1, d2, d3, d4] => { results := [.lit (.bool true)], args := [d1, d2, d3, d4] }
  | _ => none }
def jacHoldsRow : OpenClaim := { program := "ytlgifofnejncpaagreat", sum := "c33050cd333ad45ce74a026972ee404fb80c41549bfbf3c423093f89a893aa59", func := "envelope/envelopelaw4.JacHolds", spec := "jacHolds", inPlace := ["math.Float64frombits", "math.Float64bits", "math.archFloor", "math.archTrunc"], unfollowed := true, recurses := true, apart := false }
def JacHoldsSaid : Prop := jacHoldsRow.holds Tryz.pinned (OpenSpec.ofChange jacHoldsSpec)

/-- ITS FALSE NEIGHBOUR: 'it returns false'. Refute it at one input. -/
def jacHoldsWrong : ChangeSpec := { name := "jacHolds", fn := fun _ => fun
  | [d1, d2, d3, d4] => { results := [.lit (.bool false)], args := [d1, d2, d3, d4] }
  | _ => none }
def JacHoldsWrongFalsely : Prop := jacHoldsRow.holds Tryz.pinned (OpenSpec.ofChange jacHoldsWrong)

/- THE SECOND FORM. 'bulk': how many values and letters a reading holds, each counted each time it is reached (what is shared counts as often as it is met; a slice's spare places count too). A statement '..UptoSaid' is the law's where the arguments, and the package variables that the reading takes, are together of bulk at most 1048576: NARROWER than '..Said'. Prove '..Said' where nothing that the law and all that it calls make is longer than what came in: it says more and counts as full. Else prove '..UptoSaid'. A law counts once. -/
mutual
def uptoBulk {H : Type} : DataW H → Nat
  | .lit (.string bytes) => bytes.length + 1
  | .lit _ => 1
  | .nil => 1
  | .ptr d => uptoBulk d + 1
  | .slice elems spare => uptoBulkAll elems + uptoBulkAll spare + 1
  | .agg parts => uptoBulkAll parts + 1
  | .iface _ d => uptoBulk d + 1
  | .map entries => uptoBulkEntries entries + 1
  | .held _ => 1
def uptoBulkAll {H : Type} : List (DataW H) → Nat
  | [] => 0
  | d :: r => uptoBulk d + uptoBulkAll r
def uptoBulkEntries {H : Type} : List (Lit × DataW H) → Nat
  | [] => 0
  | x :: r => uptoBulkEntry x + uptoBulkEntries r
def uptoBulkEntry {H : Type} : Lit × DataW H → Nat
  | (.string bytes, d) => bytes.length + uptoBulk d + 1
  | (_, d) => uptoBulk d + 1
 end
def uptoSmall : (H : Type) → List (DataW H) → Bool := fun _ ds => decide (uptoBulkAll ds ≤ 1048576)
def OpenSpec.upto (s : _root_.Go.ChangeSpec) : _root_.Go.OpenSpec := { _root_.Go.OpenSpec.ofChange s with cond := some uptoSmall }

/-- 'envelopelaw4.JacAll', WHERE WHAT IT READS IS OF BULK AT MOST 1048576: true; the input reads as it did. -/
def jacAllUptoRow : OpenClaim := { program := "ytlgifofnejncpaagreat", sum := "c33050cd333ad45ce74a026972ee404fb80c41549bfbf3c423093f89a893aa59", func := "envelope/envelopelaw4.JacAll", spec := "jacAll", inPlace := ["math.Float64frombits", "math.Float64bits"], unfollowed := true, recurses := true, apart := false, narrowed := true }
def JacAllUptoSaid : Prop := jacAllUptoRow.holds Tryz.pinned (OpenSpec.upto jacAllSpec)

/-- 'envelopelaw4.JacNorms', WHERE WHAT IT READS IS OF BULK AT MOST 1048576: true; the input reads as it did. -/
def jacNormsUptoRow : OpenClaim := { program := "ytlgifofnejncpaagreat", sum := "c33050cd333ad45ce74a026972ee404fb80c41549bfbf3c423093f89a893aa59", func := "envelope/envelopelaw4.JacNorms", spec := "jacNorms", inPlace := ["math.Float64frombits", "math.Float64bits"], unfollowed := true, recurses := true, apart := false, narrowed := true }
def JacNormsUptoSaid : Prop := jacNormsUptoRow.holds Tryz.pinned (OpenSpec.upto jacNormsSpec)

/-- 'envelopelaw4.JacHolds', WHERE WHAT IT READS IS OF BULK AT MOST 1048576: true; the input reads as it did. -/
def jacHoldsUptoRow : OpenClaim := { program := "ytlgifofnejncpaagreat", sum := "c33050cd333ad45ce74a026972ee404fb80c41549bfbf3c423093f89a893aa59", func := "envelope/envelopelaw4.JacHolds", spec := "jacHolds", inPlace := ["math.Float64frombits", "math.Float64bits", "math.archFloor", "math.archTrunc"], unfollowed := true, recurses := true, apart := false, narrowed := true }
def JacHoldsUptoSaid : Prop := jacHoldsUptoRow.holds Tryz.pinned (OpenSpec.upto jacHoldsSpec)

end Rows
end Go.Proofs.YtlgifofnejncpaaGreat
