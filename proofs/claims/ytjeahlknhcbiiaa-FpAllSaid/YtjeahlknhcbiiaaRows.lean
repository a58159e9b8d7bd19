/-
  No cell of these rows narrows 'for every input' (looked for: loops, veiled, ifaces, maps, wideKeys, modest, calm, conditions, laid).
  DERIVED. THE GIVEN ROWS OF THIS SEAT. 11 by the template 'for every input the law returns true; each argument reads behind the call as it read before'; 0 by the template 'total and deterministic' (their statements: YtjeahlknhcbiiaaTotals.lean).
  GIVEN WITH THE SEED: the statements are not yours to turn. If you find one false, say at which input.
  Laid BY PROGRAM, IN A SANDBOX (cutbox-rows.mjs): the forced cells as the released guide's own fill.sh prints them over the translation 98962901afd5f76e… (all of the seat's roots in one cut). By AI agents, Wed Nov 11 2026. No macro, syntax, notation, axiom, sorry.
-/
import Derived.Test.YtjeahlknhcbiiaaChecked
import GoSem.Claim
import GoSem.ClaimJoined
import GoSem.ClaimMapViews
import Derived.JoinedTies
import Derived.KernelRfl
namespace Go.Proofs.Ytjeahlknhcbiiaa
/- THE CELL 'sum', in the pinned program and in every row, IS THE sha256 OF THE DUMP (.gsa) THAT YtjeahlknhcbiiaaProg.lean LOADS. Nothing in Lean hashes anything: it is a label: what it is worth is what the hold of that sum in a sandbox is worth. -/
noncomputable def Try.pinned : Pinned := { name := "ytjeahlknhcbiiaa", sum := "98962901afd5f76ecdbcf0a34de258fdbe8e760e3cb64b5f3fe445ced92c72a8", checked := Try.checked }
namespace Rows
def none {H : Type} : Left H := { results := [], args := [] }

/-- 'envelopelaw1.FpAll': WHATEVER THE INPUT: true; the input reads as it did. -/
def fpAllSpec : ChangeSpec := { name := "fpAll", fn := fun _ => fun
  | [d1, d2, d3, d4, d5] => { results := [.lit (.bool true)], args := [d1, d2, d3, d4, d5] }
  | _ => none }
def fpAllRow : OpenClaim := { program := "ytjeahlknhcbiiaa", sum := "98962901afd5f76ecdbcf0a34de258fdbe8e760e3cb64b5f3fe445ced92c72a8", func := "envelope/envelopelaw1.FpAll", spec := "fpAll", inPlace := ["math.FMA", "math.Float64frombits", "math.Float64bits"], apart := false }
def FpAllSaid : Prop := fpAllRow.holds Try.pinned (OpenSpec.ofChange fpAllSpec)

/-- ITS FALSE NEIGHBOUR: 'it returns false'. Refute it at one input. -/
def fpAllWrong : ChangeSpec := { name := "fpAll", fn := fun _ => fun
  | [d1, d2, d3, d4, d5] => { results := [.lit (.bool false)], args := [d1, d2, d3, d4, d5] }
  | _ => none }
def FpAllWrongFalsely : Prop := fpAllRow.holds Try.pinned (OpenSpec.ofChange fpAllWrong)

/-- 'envelopelaw1.FpSums': WHATEVER THE INPUT: true; the input reads as it did. -/
def fpSumsSpec : ChangeSpec := { name := "fpSums", fn := fun _ => fun
  | [d1, d2] => { results := [.lit (.bool true)], args := [d1, d2] }
  | _ => none }
def fpSumsRow : OpenClaim := { program := "ytjeahlknhcbiiaa", sum := "98962901afd5f76ecdbcf0a34de258fdbe8e760e3cb64b5f3fe445ced92c72a8", func := "envelope/envelopelaw1.FpSums", spec := "fpSums", inPlace := ["math.FMA", "math.Float64frombits", "math.Float64bits"], apart := false }
def FpSumsSaid : Prop := fpSumsRow.holds Try.pinned (OpenSpec.ofChange fpSumsSpec)

/-- ITS FALSE NEIGHBOUR: 'it returns false'. Refute it at one input. -/
def fpSumsWrong : ChangeSpec := { name := "fpSums", fn := fun _ => fun
  | [d1, d2] => { results := [.lit (.bool false)], args := [d1, d2] }
  | _ => none }
def FpSumsWrongFalsely : Prop := fpSumsRow.holds Try.pinned (OpenSpec.ofChange fpSumsWrong)

/-- 'envelopelaw1.FpProducts': WHATEVER THE INPUT: true; the input reads as it did. -/
def fpProductsSpec : ChangeSpec := { name := "fpProducts", fn := fun _ => fun
  | [d1, d2] => { results := [.lit (.bool true)], args := [d1, d2] }
  | _ => none }
def fpProductsRow : OpenClaim := { program := "ytjeahlknhcbiiaa", sum := "98962901afd5f76ecdbcf0a34de258fdbe8e760e3cb64b5f3fe445ced92c72a8", func := "envelope/envelopelaw1.FpProducts", spec := "fpProducts", inPlace := ["math.FMA", "math.Float64frombits", "math.Float64bits"], apart := false }
def FpProductsSaid : Prop := fpProductsRow.holds Try.pinned (OpenSpec.ofChange fpProductsSpec)

/-- ITS FALSE NEIGHBOUR: 'it returns false'. Refute it at one input. -/
def fpProductsWrong : ChangeSpec := { name := "fpProducts", fn := fun _ => fun
  | [d1, d2] => { results := [.lit (.bool false)], args := [d1, d2] }
  | _ => none }
def FpProductsWrongFalsely : Prop := fpProductsRow.holds Try.pinned (OpenSpec.ofChange fpProductsWrong)

/-- 'envelopelaw1.FpNext': WHATEVER THE INPUT: true; the input reads as it did. -/
def fpNextSpec : ChangeSpec := { name := "fpNext", fn := fun _ => fun
  | [d1, d2, d3] => { results := [.lit (.bool true)], args := [d1, d2, d3] }
  | _ => none }
def fpNextRow : OpenClaim := { program := "ytjeahlknhcbiiaa", sum := "98962901afd5f76ecdbcf0a34de258fdbe8e760e3cb64b5f3fe445ced92c72a8", func := "envelope/envelopelaw1.FpNext", spec := "fpNext", inPlace := ["math.FMA", "math.Float64frombits", "math.Float64bits"], apart := false }
def FpNextSaid : Prop := fpNextRow.holds Try.pinned (OpenSpec.ofChange fpNextSpec)

/-- ITS FALSE NEIGHBOUR: 'it returns false'. Refute it at one input. -/
def fpNextWrong : ChangeSpec := { name := "fpNext", fn := fun _ => fun
  | [d1, d2, d3] => { results := [.lit (.bool false)], args := [d1, d2, d3] }
  | _ => none }
def FpNextWrongFalsely : Prop := fpNextRow.holds Try.pinned (OpenSpec.ofChange fpNextWrong)

/-- 'envelopelaw1.FpScales': WHATEVER THE INPUT: true; the input reads as it did. -/
def fpScalesSpec : ChangeSpec := { name := "fpScales", fn := fun _ => fun
  | [d1, d2, d3, d4] => { results := [.lit (.bool true)], args := [d1, d2, d3, d4] }
  | _ => none }
def fpScalesRow : OpenClaim := { program := "ytjeahlknhcbiiaa", sum := "98962901afd5f76ecdbcf0a34de258fdbe8e760e3cb64b5f3fe445ced92c72a8", func := "envelope/envelopelaw1.FpScales", spec := "fpScales", inPlace := ["math.FMA", "math.Float64frombits", "math.Float64bits"], apart := false }
def FpScalesSaid : Prop := fpScalesRow.holds Try.pinned (OpenSpec.ofChange fpScalesSpec)

/-- ITS FALSE NEIGHBOUR: 'it returns false'. Refute it at one input. -/
def fpScalesWrong : ChangeSpec := { name := "fpScales", fn := fun _ => fun
  | [d1, d2, d3, d4] => { results := [.lit (.bool false)], args := [d1, d2, d3, d4] }
  | _ => none }
def FpScalesWrongFalsely : Prop := fpScalesRow.holds Try.pinned (OpenSpec.ofChange fpScalesWrong)

/-- 'envelopelaw1.FpKnown': WHATEVER THE INPUT: true; the input reads as it did. -/
def fpKnownSpec : ChangeSpec := { name := "fpKnown", fn := fun _ => fun
  | [d] => { results := [.lit (.bool true)], args := [d] }
  | _ => none }
def fpKnownRow : OpenClaim := { program := "ytjeahlknhcbiiaa", sum := "98962901afd5f76ecdbcf0a34de258fdbe8e760e3cb64b5f3fe445ced92c72a8", func := "envelope/envelopelaw1.FpKnown", spec := "fpKnown", inPlace := ["math.FMA", "math.Float64frombits", "math.Float64bits"], apart := false }
def FpKnownSaid : Prop := fpKnownRow.holds Try.pinned (OpenSpec.ofChange fpKnownSpec)

/-- ITS FALSE NEIGHBOUR: 'it returns false'. Refute it at one input. -/
def fpKnownWrong : ChangeSpec := { name := "fpKnown", fn := fun _ => fun
  | [d] => { results := [.lit (.bool false)], args := [d] }
  | _ => none }
def FpKnownWrongFalsely : Prop := fpKnownRow.holds Try.pinned (OpenSpec.ofChange fpKnownWrong)

/-- 'envelopelaw1.FpOrders': WHATEVER THE INPUT: true; the input reads as it did. -/
def fpOrdersSpec : ChangeSpec := { name := "fpOrders", fn := fun _ => fun
  | [d1, d2, d3] => { results := [.lit (.bool true)], args := [d1, d2, d3] }
  | _ => none }
def fpOrdersRow : OpenClaim := { program := "ytjeahlknhcbiiaa", sum := "98962901afd5f76ecdbcf0a34de258fdbe8e760e3cb64b5f3fe445ced92c72a8", func := "envelope/envelopelaw1.FpOrders", spec := "fpOrders", inPlace := ["math.FMA", "math.Float64frombits", "math.Float64bits"], apart := false }
def FpOrdersSaid : Prop := fpOrdersRow.holds Try.pinned (OpenSpec.ofChange fpOrdersSpec)

/-- ITS FALSE NEIGHBOUR: 'it returns false'. Refute it at one input. -/
def fpOrdersWrong : ChangeSpec := { name := "fpOrders", fn := fun _ => fun
  | [d1, d2, d3] => { results := [.lit (.bool false)], args := [d1, d2, d3] }
  | _ => none }
def FpOrdersWrongFalsely : Prop := fpOrdersRow.holds Try.pinned (OpenSpec.ofChange fpOrdersWrong)

/-- 'envelopelaw1.FpTurns': WHATEVER THE INPUT: true; the input reads as it did. -/
def fpTurnsSpec : ChangeSpec := { name := "fpTurns", fn := fun _ => fun
  | [d1, d2, d3] => { results := [.lit (.bool true)], args := [d1, d2, d3] }
  | _ => none }
def fpTurnsRow : OpenClaim := { program := "ytjeahlknhcbiiaa", sum := "98962901afd5f76ecdbcf0a34de258fdbe8e760e3cb64b5f3fe445ced92c72a8", func := "envelope/envelopelaw1.FpTurns", spec := "fpTurns", inPlace := ["math.FMA", "math.Float64frombits", "math.Float64bits"], apart := false }
def FpTurnsSaid : Prop := fpTurnsRow.holds Try.pinned (OpenSpec.ofChange fpTurnsSpec)

/-- ITS FALSE NEIGHBOUR: 'it returns false'. Refute it at one input. -/
def fpTurnsWrong : ChangeSpec := { name := "fpTurns", fn := fun _ => fun
  | [d1, d2, d3] => { results := [.lit (.bool false)], args := [d1, d2, d3] }
  | _ => none }
def FpTurnsWrongFalsely : Prop := fpTurnsRow.holds Try.pinned (OpenSpec.ofChange fpTurnsWrong)

/-- 'envelopelaw1.FpHalves': WHATEVER THE INPUT: true; the input reads as it did. -/
def fpHalvesSpec : ChangeSpec := { name := "fpHalves", fn := fun _ => fun
  | [d1, d2, d3] => { results := [.lit (.bool true)], args := [d1, d2, d3] }
  | _ => none }
def fpHalvesRow : OpenClaim := { program := "ytjeahlknhcbiiaa", sum := "98962901afd5f76ecdbcf0a34de258fdbe8e760e3cb64b5f3fe445ced92c72a8", func := "envelope/envelopelaw1.FpHalves", spec := "fpHalves", inPlace := ["math.FMA", "math.Float64frombits", "math.Float64bits"], apart := false }
def FpHalvesSaid : Prop := fpHalvesRow.holds Try.pinned (OpenSpec.ofChange fpHalvesSpec)

/-- ITS FALSE NEIGHBOUR: 'it returns false'. Refute it at one input. -/
def fpHalvesWrong : ChangeSpec := { name := "fpHalves", fn := fun _ => fun
  | [d1, d2, d3] => { results := [.lit (.bool false)], args := [d1, d2, d3] }
  | _ => none }
def FpHalvesWrongFalsely : Prop := fpHalvesRow.holds Try.pinned (OpenSpec.ofChange fpHalvesWrong)

/-- 'envelopelaw1.FpSwaps': WHATEVER THE INPUT: true; the input reads as it did. -/
def fpSwapsSpec : ChangeSpec := { name := "fpSwaps", fn := fun _ => fun
  | [d1, d2] => { results := [.lit (.bool true)], args := [d1, d2] }
  | _ => none }
def fpSwapsRow : OpenClaim := { program := "ytjeahlknhcbiiaa", sum := "98962901afd5f76ecdbcf0a34de258fdbe8e760e3cb64b5f3fe445ced92c72a8", func := "envelope/envelopelaw1.FpSwaps", spec := "fpSwaps", inPlace := ["math.FMA", "math.Float64frombits", "math.Float64bits"], apart := false }
def FpSwapsSaid : Prop := fpSwapsRow.holds Try.pinned (OpenSpec.ofChange fpSwapsSpec)

/-- ITS FALSE NEIGHBOUR: 'it returns false'. Refute it at one input. -/
def fpSwapsWrong : ChangeSpec := { name := "fpSwaps", fn := fun _ => fun
  | [d1, d2] => { results := [.lit (.bool false)], args := [d1, d2] }
  | _ => none }
def FpSwapsWrongFalsely : Prop := fpSwapsRow.holds Try.pinned (OpenSpec.ofChange fpSwapsWrong)

/-- 'envelopelaw1.FpMany': WHATEVER THE INPUT: true; the input reads as it did. -/
def fpManySpec : ChangeSpec := { name := "fpMany", fn := fun _ => fun
  | [d] => { results := [.lit (.bool true)], args := [d] }
  | _ => none }
def fpManyRow : OpenClaim := { program := "ytjeahlknhcbiiaa", sum := "98962901afd5f76ecdbcf0a34de258fdbe8e760e3cb64b5f3fe445ced92c72a8", func := "envelope/envelopelaw1.FpMany", spec := "fpMany", inPlace := ["math.FMA", "math.Float64frombits", "math.Float64bits"], apart := false }
def FpManySaid : Prop := fpManyRow.holds Try.pinned (OpenSpec.ofChange fpManySpec)

/-- ITS FALSE NEIGHBOUR: 'it returns false'. Refute it at one input. -/
def fpManyWrong : ChangeSpec := { name := "fpMany", fn := fun _ => fun
  | [d] => { results := [.lit (.bool false)], args := [d] }
  | _ => none }
def FpManyWrongFalsely : Prop := fpManyRow.holds Try.pinned (OpenSpec.ofChange fpManyWrong)

/- THE SECOND FORM. 'bulk': how many values and letters a reading holds, each counted each time it is reached (what is shared counts as often as it is met; a slice's spare places count too). A statement '..UptoSaid' is the law's where the arguments, and the package variables that the reading takes, are together of bulk at most 1048576: NARROWER than '..Said'. Prove '..Said' where nothing that the law and all that it calls make is longer than what came in: it says more and counts as full. Else prove '..UptoSaid'. A law counts once. -/
mutual
def uptoBulk {H : Type} : DataW H → Nat
  | .lit (.string bytes) => bytes.length + 1
  | .lit _ => 1
  | .nil => 1
  | .ptr d => uptoBulk d + 1
  | .slice elems spare => uptoBulkAll elems + uptoBulkAll spare + 1
  | .agg parts => uptoBulkAll parts + 1
  | .iface _ d => uptoBulk d + 1
  | .map entries => uptoBulkEntries entries + 1
  | .held _ => 1
def uptoBulkAll {H : Type} : List (DataW H) → Nat
  | [] => 0
  | d :: r => uptoBulk d + uptoBulkAll r
def uptoBulkEntries {H : Type} : List (Lit × DataW H) → Nat
  | [] => 0
  | x :: r => uptoBulkEntry x + uptoBulkEntries r
def uptoBulkEntry {H : Type} : Lit × DataW H → Nat
  | (.string bytes, d) => bytes.length + uptoBulk d + 1
  | (_, d) => uptoBulk d + 1
 end
def uptoSmall : (H : Type) → List (DataW H) → Bool := fun _ ds => decide (uptoBulkAll ds ≤ 1048576)
def OpenSpec.upto (s : _root_.Go.ChangeSpec) : _root_.Go.OpenSpec := { _root_.Go.OpenSpec.ofChange s with cond := some uptoSmall }

/-- 'envelopelaw1.FpAll', WHERE WHAT IT READS IS OF BULK AT MOST 1048576: true; the input reads as it did. -/
def fpAllUptoRow : OpenClaim := { program := "ytjeahlknhcbiiaa", sum := "98962901afd5f76ecdbcf0a34de258fdbe8e760e3cb64b5f3fe445ced92c72a8", func := "envelope/envelopelaw1.FpAll", spec := "fpAll", inPlace := ["math.FMA", "math.Float64frombits", "math.Float64bits"], apart := false, narrowed := true }
def FpAllUptoSaid : Prop := fpAllUptoRow.holds Try.pinned (OpenSpec.upto fpAllSpec)

/-- 'envelopelaw1.FpSums', WHERE WHAT IT READS IS OF BULK AT MOST 1048576: true; the input reads as it did. -/
def fpSumsUptoRow : OpenClaim := { program := "ytjeahlknhcbiiaa", sum := "98962901afd5f76ecdbcf0a34de258fdbe8e760e3cb64b5f3fe445ced92c72a8", func := "envelope/envelopelaw1.FpSums", spec := "fpSums", inPlace := ["math.FMA", "math.Float64frombits", "math.Float64bits"], apart := false, narrowed := true }
def FpSumsUptoSaid : Prop := fpSumsUptoRow.holds Try.pinned (OpenSpec.upto fpSumsSpec)

/-- 'envelopelaw1.FpProducts', WHERE WHAT IT READS IS OF BULK AT MOST 1048576: true; the input reads as it did. -/
def fpProductsUptoRow : OpenClaim := { program := "ytjeahlknhcbiiaa", sum := "98962901afd5f76ecdbcf0a34de258fdbe8e760e3cb64b5f3fe445ced92c72a8", func := "envelope/envelopelaw1.FpProducts", spec := "fpProducts", inPlace := ["math.FMA", "math.Float64frombits", "math.Float64bits"], apart := false, narrowed := true }
def FpProductsUptoSaid : Prop := fpProductsUptoRow.holds Try.pinned (OpenSpec.upto fpProductsSpec)

/-- 'envelopelaw1.FpNext', WHERE WHAT IT READS IS OF BULK AT MOST 1048576: true; the input reads as it did. -/
def fpNextUptoRow : OpenClaim := { program := "ytjeahlknhcbiiaa", sum := "98962901afd5f76ecdbcf0a34de258fdbe8e760e3cb64b5f3fe445ced92c72a8", func := "envelope/envelopelaw1.FpNext", spec := "fpNext", inPlace := ["math.FMA", "math.Float64frombits", "math.Float64bits"], apart := false, narrowed := true }
def FpNextUptoSaid : Prop := fpNextUptoRow.holds Try.pinned (OpenSpec.upto fpNextSpec)

/-- 'envelopelaw1.FpScales', WHERE WHAT IT READS IS OF BULK AT MOST 1048576: true; the input reads as it did. -/
def fpScalesUptoRow : OpenClaim := { program := "ytjeahlknhcbiiaa", sum := "98962901afd5f76ecdbcf0a34de258fdbe8e760e3cb64b5f3fe445ced92c72a8", func := "envelope/envelopelaw1.FpScales", spec := "fpScales", inPlace := ["math.FMA", "math.Float64frombits", "math.Float64bits"], apart := false, narrowed := true }
def FpScalesUptoSaid : Prop := fpScalesUptoRow.holds Try.pinned (OpenSpec.upto fpScalesSpec)

/-- 'envelopelaw1.FpKnown', WHERE WHAT IT READS IS OF BULK AT MOST 1048576: true; the input reads as it did. -/
def fpKnownUptoRow : OpenClaim := { program := "ytjeahlknhcbiiaa", sum := "98962901afd5f76ecdbcf0a34de258fdbe8e760e3cb64b5f3fe445ced92c72a8", func := "envelope/envelopelaw1.FpKnown", spec := "fpKnown", inPlace := ["math.FMA", "math.Float64frombits", "math.Float64bits"], apart := false, narrowed := true }
def FpKnownUptoSaid : Prop := fpKnownUptoRow.holds Try.pinned (OpenSpec.upto fpKnownSpec)

/-- 'envelopelaw1.FpOrders', WHERE WHAT IT READS IS OF BULK AT MOST 1048576: true; the input reads as it did. -/
def fpOrdersUptoRow : OpenClaim := { program := "ytjeahlknhcbiiaa", sum := "98962901afd5f76ecdbcf0a34de258fdbe8e760e3cb64b5f3fe445ced92c72a8", func := "envelope/envelopelaw1.FpOrders", spec := "fpOrders", inPlace := ["math.FMA", "math.Float64frombits", "math.Float64bits"], apart := false, narrowed := true }
def FpOrdersUptoSaid : Prop := fpOrdersUptoRow.holds Try.pinned (OpenSpec.upto fpOrdersSpec)

/-- 'envelopelaw1.FpTurns', WHERE WHAT IT READS IS OF BULK AT MOST 1048576: true; the input reads as it did. -/
def fpTurnsUptoRow : OpenClaim := { program := "ytjeahlknhcbiiaa", sum := "98962901afd5f76ecdbcf0a34de258fdbe8e760e3cb64b5f3fe445ced92c72a8", func := "envelope/envelopelaw1.FpTurns", spec := "fpTurns", inPlace := ["math.FMA", "math.Float64frombits", "math.Float64bits"], apart := false, narrowed := true }
def FpTurnsUptoSaid : Prop := fpTurnsUptoRow.holds Try.pinned (OpenSpec.upto fpTurnsSpec)

/-- 'envelopelaw1.FpHalves', WHERE WHAT IT READS IS OF BULK AT MOST 1048576: true; the input reads as it did. -/
def fpHalvesUptoRow : OpenClaim := { program := "ytjeahlknhcbiiaa", sum := "98962901afd5f76ecdbcf0a34de258fdbe8e760e3cb64b5f3fe445ced92c72a8", func := "envelope/envelopelaw1.FpHalves", spec := "fpHalves", inPlace := ["math.FMA", "math.Float64frombits", "math.Float64bits"], apart := false, narrowed := true }
def FpHalvesUptoSaid : Prop := fpHalvesUptoRow.holds Try.pinned (OpenSpec.upto fpHalvesSpec)

/-- 'envelopelaw1.FpSwaps', WHERE WHAT IT READS IS OF BULK AT MOST 1048576: true; the input reads as it did. -/
def fpSwapsUptoRow : OpenClaim := { program := "ytjeahlknhcbiiaa", sum := "98962901afd5f76ecdbcf0a34de258fdbe8e760e3cb64b5f3fe445ced92c72a8", func := "envelope/envelopelaw1.FpSwaps", spec := "fpSwaps", inPlace := ["math.FMA", "math.Float64frombits", "math.Float64bits"], apart := false, narrowed := true }
def FpSwapsUptoSaid : Prop := fpSwapsUptoRow.holds Try.pinned (OpenSpec.upto fpSwapsSpec)

/-- 'envelopelaw1.FpMany', WHERE WHAT IT READS IS OF BULK AT MOST 1048576: true; the input reads as it did. -/
def fpManyUptoRow : OpenClaim := { program := "ytjeahlknhcbiiaa", sum := "98962901afd5f76ecdbcf0a34de258fdbe8e760e3cb64b5f3fe445ced92c72a8", func := "envelope/envelopelaw1.FpMany", spec := "fpMany", inPlace := ["math.FMA", "math.Float64frombits", "math.Float64bits"], apart := false, narrowed := true }
def FpManyUptoSaid : Prop := fpManyUptoRow.holds Try.pinned (OpenSpec.upto fpManySpec)

end Rows
end Go.Proofs.Ytjeahlknhcbiiaa
